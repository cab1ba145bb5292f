/-
  Layer 7: an object, how it lies; what the reader reads as one.
-/
import Derived.Test.YtepgifapepaheaaRrp
namespace Go.Proofs.Ytepgifapepaheaa
set_option linter.unusedVariables false
set_option linter.unusedSimpArgs false
open Go.ChangeShapes Go.WideShapes Go.ChangeAt Go.RowKit

def loadO (a : Addr) : Sem Value := loadVar 33 a
theorem loadO_seal (a : Addr) : loadVar 33 a = loadO a := rfl
def storeO (a : Addr) (v : Value) : Sem Unit := storeVar 33 a v
theorem storeO_seal (a : Addr) (v : Value) : storeVar 33 a v = storeO a v := rfl
theorem loadO_run {X : World} {g : Nat} {o : Oc} (h : OAt X g o) : (loadO ⟨g, 0, none⟩).run Try.prog X = .ok (.agg o.cells) X := load_blk h Try.underlying33 rfl (by kernel_rfl)
attribute [local go_sem ↓] loadO_seal storeO_seal
def putL13 (Y : Array Value) : Nat → List Value → Array Value
  | _, [] => Y
  | k, v :: r => putL13 (Y.setIfInBounds k v) (k + 1) r
theorem cells_put {g : Nat} {t : TypeId} {fr : Nat × Nat} : ∀ (vs : List Value) (k : Nat) (w : World) (Y : Array Value), w.heap[g]? = some (.cells Y t fr) → (w.setCells g k vs).heap[g]? = some (.cells (putL13 Y k vs) t fr)
  | [], _, _, _, h => h
  | v :: r, k, w, Y, h => by rw [World.setCells, putL13]; exact cells_put r (k + 1) _ _ (Go.Joins.block_setCell h v)
theorem put13 (c0 c1 c2 c3 c4 c5 c6 c7 c8 c9 c10 c11 c12 v0 v1 v2 v3 v4 v5 v6 v7 v8 v9 v10 v11 v12 : Value) : putL13 #[c0, c1, c2, c3, c4, c5, c6, c7, c8, c9, c10, c11, c12] 0 [v0, v1, v2, v3, v4, v5, v6, v7, v8, v9, v10, v11, v12] = #[v0, v1, v2, v3, v4, v5, v6, v7, v8, v9, v10, v11, v12] := by kernel_rfl
theorem tq_cells {g : Nat} : ∀ (l : List Value) (k : Nat) (X : World), Tq X (X.setCells g k l) (fun x => x = g)
  | [], _, X => ⟨rfl, rfl, rfl, Nat.le_refl _, fun _ _ _ => rfl⟩
  | v :: r, k, X => Tq.trans (P := fun x => x = g) (Tq.set (P := fun x => x = g) rfl) (tq_cells r (k + 1) _)
theorem Oc.one (o : Oc) : (o.cells.all fun x => x.oneCell') = true := by simp [Oc.cells, Value.oneCell']
theorem storeO_run {X : World} {g : Nat} {o : Oc} (h : OAt X g o) (o2 : Oc) : ∃ Y, (storeO ⟨g, 0, none⟩ (.agg o2.cells)).run Try.prog X = .ok () Y ∧ OAt Y g o2 ∧ Tq X Y (fun k => k = g) := by
  have hr := run_storeVar_mid (P := Try.prog) X g 0 33 o2.cells (fun j hj => by
    rw [Nat.zero_add, blk_cell h j]
    have hj2 : j < o.cells.size := hj
    exact ⟨by rw [Array.getElem?_eq_getElem hj2]; rfl, blk_fz h j⟩) (by kernel_rfl) o2.one
  have hp := cells_put o2.cells.toList 0 X _ h
  rw [show putL13 o.cells 0 o2.cells.toList = o2.cells from put13 _ _ _ _ _ _ _ _ _ _ _ _ _ _ _ _ _ _ _ _ _ _ _ _ _ _] at hp
  exact ⟨_, hr, hp, tq_cells _ _ _⟩
def Oc.zero : Oc := ⟨⟨#[]⟩, 0, ⟨none, 0, 0⟩, ⟨none, 0, 0⟩, ⟨none, 0, 0⟩, ⟨none, 0, 0⟩, ⟨none, 0, 0⟩, 0, ⟨none, 0, 0⟩, ⟨none, 0, 0⟩, ⟨none, 0, 0⟩, ⟨none, 0, 0⟩, ⟨none, 0, 0⟩⟩
/-- An object. -/
structure Ob where
  name : ByteArray
  key : Int
  imps : List (ByteArray × Int)
  code : List Int
  procs : List Int
  names : List ByteArray
  exps : List Bool
  ini : Int
  vars : List Int
  shown : List Int
  strs : List ByteArray
  descs : List (Int × Int × List Int)
  fixes : List (Int × Int × Int × Int)
def iEnc (x : ByteArray × Int) : Array Value := #[.string x.1, .int .u32 x.2]
def xEnc (x : Int × Int × Int × Int) : Array Value := #[.int .i64 x.1, .int .i64 x.2.1, .int .i64 x.2.2.1, .int .i64 x.2.2.2]
/-- How an object lies, in rows of the call's own. -/
structure ObAt (X : World) (B : Nat) (c : Oc) (o : Ob) : Prop where
  nm : c.nm = o.name
  key : c.key = o.key
  ini : c.ini = o.ini
  im : X.ownsRow B 59 2 (.slice c.im.a c.im.n c.im.c) o.imps.length (flat iEnc o.imps)
  co : X.ownsRow B 24 1 (.slice c.co.a c.co.n c.co.c) o.code.length (o.code.map (Value.int .u32))
  pr : X.ownsRow B 3 1 (.slice c.pr.a c.pr.n c.pr.c) o.procs.length (o.procs.map (Value.int .i64))
  na : X.ownsRow B 9 1 (.slice c.na.a c.na.n c.na.c) o.names.length (o.names.map Value.string)
  ex : X.ownsRow B 4 1 (.slice c.ex.a c.ex.n c.ex.c) o.exps.length (o.exps.map Value.bool)
  va : X.ownsRow B 3 1 (.slice c.va.a c.va.n c.va.c) o.vars.length (o.vars.map (Value.int .i64))
  sh : X.ownsRow B 3 1 (.slice c.sh.a c.sh.n c.sh.c) o.shown.length (o.shown.map (Value.int .i64))
  st : X.ownsRow B 9 1 (.slice c.st.a c.st.n c.st.c) o.strs.length (o.strs.map Value.string)
  ds : ∃ l, l.map (·.1) = o.descs ∧ X.ownsRow B 54 3 (.slice c.ds.a c.ds.n c.ds.c) l.length (flat dEnc l) ∧ DsAt X B l
  fx : X.ownsRow B 56 4 (.slice c.fx.a c.fx.n c.fx.c) o.fixes.length (flat xEnc o.fixes)
/-- It lies so where none of its rows' blocks was turned. -/
theorem ObAt.tq {X Y : World} {B : Nat} {c : Oc} {o : Ob} {P : Nat → Prop} (h : ObAt X B c o) (t : Tq X Y P) (hp : ∀ k, B ≤ k → ¬ P k) : ObAt Y B c o := by
  obtain ⟨l, h1, h2, h3⟩ := h.ds
  exact ⟨h.nm, h.key, h.ini, t.own h.im fun g hg => hp g (own_lo h.im g hg), t.own h.co fun g hg => hp g (own_lo h.co g hg), t.own h.pr fun g hg => hp g (own_lo h.pr g hg), t.own h.na fun g hg => hp g (own_lo h.na g hg), t.own h.ex fun g hg => hp g (own_lo h.ex g hg), t.own h.va fun g hg => hp g (own_lo h.va g hg), t.own h.sh fun g hg => hp g (own_lo h.sh g hg), t.own h.st fun g hg => hp g (own_lo h.st g hg),
    ⟨l, h1, t.own h2 fun g hg => hp g (own_lo h2 g hg), fun p hq => t.own (h3 p hq) fun g hg => hp g (own_lo (h3 p hq) g hg)⟩, t.own h.fx fun g hg => hp g (own_lo h.fx g hg)⟩
theorem own_nil (X : World) (B : Nat) (e : TypeId) (k : Nat) : X.ownsRow B e k (.slice none 0 0) 0 [] := ⟨by simp, .inl ⟨rfl, rfl⟩⟩
theorem ObAt.none (X : World) (B : Nat) : ObAt X B Oc.zero ⟨⟨#[]⟩, 0, [], [], [], [], [], 0, [], [], [], [], []⟩ :=
  ⟨rfl, rfl, rfl, own_nil .., own_nil .., own_nil .., own_nil .., own_nil .., own_nil .., own_nil .., own_nil .., ⟨[], rfl, own_nil .., fun p hp => by cases hp⟩, own_nil ..⟩
/-- What stands while an object is read: the reader, its place's cells, the object's. -/
structure Os (w X : World) (b len cap : Nat) (a : Option Addr) (f : Nat → Int) (c : Oc) (o : Ob) (s : St) : Prop where
  rd : Rdr X b a len cap f s
  by_ : By b (w.heap.size + 3) w.heap.size X
  lies : OAt X (w.heap.size + 2) c
  res : OAt X (w.heap.size + 1) Oc.zero
  ob : ObAt X (w.heap.size + 4) c o
  tq : Tq w X (fun k => k = b)
def zeroO : Obj := .cells #[.string ⟨#[]⟩, .int .u32 0, .slice none 0 0, .slice none 0 0, .slice none 0 0, .slice none 0 0, .slice none 0 0, .int .i64 0, .slice none 0 0, .slice none 0 0, .slice none 0 0, .slice none 0 0, .slice none 0 0] 33
def W4 (w : World) (b : Nat) : World := (((w.alloc (.cells #[.pointer (some ⟨b, 0, none⟩)] 44)).alloc zeroO).alloc zeroO).alloc (.cells #[.nilFunc] 65)
def W5 (w : World) (b : Nat) : World := (W4 w b).setCell ⟨w.heap.size + 1 + 1 + 1, 0, none⟩ (.func (.func 27) #[] #[.pointer (some ⟨w.heap.size, 0, none⟩)])
theorem W4_size (w : World) (b : Nat) : (W4 w b).heap.size = w.heap.size + 4 := by simp [W4]
theorem W4_low (w : World) (b : Nat) : Below w.heap.size w (W4 w b) := by unfold W4; go_grown
theorem W4_0 (w : World) (b : Nat) : (W4 w b).heap[w.heap.size]? = some (.cells #[.pointer (some ⟨b, 0, none⟩)] 44 (0, 0)) := by
  unfold W4
  rw [Below.heap_alloc _ _ _ (by simp; omega), Below.heap_alloc _ _ _ (by simp; omega), Below.heap_alloc _ _ _ (by simp)]
  exact blk_new _ _
theorem W4_1 (w : World) (b : Nat) : OAt (W4 w b) (w.heap.size + 1) Oc.zero := by
  unfold W4 OAt
  rw [Below.heap_alloc _ _ _ (by simp), Below.heap_alloc _ _ _ (by simp)]
  have := blk_new (w.alloc (.cells #[.pointer (some ⟨b, 0, none⟩)] 44)) zeroO
  rw [show (w.alloc (.cells #[.pointer (some ⟨b, 0, none⟩)] 44)).heap.size = w.heap.size + 1 by simp] at this
  exact this
theorem W4_2 (w : World) (b : Nat) : OAt (W4 w b) (w.heap.size + 2) Oc.zero := by
  unfold W4 OAt
  rw [Below.heap_alloc _ _ _ (by simp)]
  have := blk_new ((w.alloc (.cells #[.pointer (some ⟨b, 0, none⟩)] 44)).alloc zeroO) zeroO
  rw [show ((w.alloc (.cells #[.pointer (some ⟨b, 0, none⟩)] 44)).alloc zeroO).heap.size = w.heap.size + 2 by simp] at this
  exact this
theorem W4_3 (w : World) (b : Nat) : (W4 w b).heap[w.heap.size + 3]? = some (.cells #[.nilFunc] 65 (0, 0)) := by
  unfold W4
  have := blk_new (((w.alloc (.cells #[.pointer (some ⟨b, 0, none⟩)] 44)).alloc zeroO).alloc zeroO) (.cells #[.nilFunc] 65)
  simpa using this
theorem W5_os (w : World) (b len cap : Nat) (a : Option Addr) (f : Nat → Int) (s : St) (h : Rdr w b a len cap f s) : Os w (W5 w b) b len cap a f Oc.zero ⟨⟨#[]⟩, 0, [], [], [], [], [], 0, [], [], [], [], []⟩ s := by
  have bl := h.bl
  have t : Tq (W4 w b) (W5 w b) (fun k => k = w.heap.size + 3) := Tq.set rfl
  have h4 := h.below (W4_low w b)
  refine ⟨t.rdr h4 (by omega) (fun ad he => by have := (h.ap ad he).2; omega), ?_, (W4_2 w b).tq t (by omega), (W4_1 w b).tq t (by omega), ObAt.none _ _, ?_⟩
  · refine ⟨?_, (blk_cell ((t.blk w.heap.size (by rw [W4_size]; omega) (by omega)).trans (W4_0 w b)) 0), by omega, by omega, ?_, ?_⟩
    · exact blk_cell (Go.Joins.block_setCell (W4_3 w b) _) 0
    · have := t.size; rw [W4_size] at this; omega
    · have := t.size; rw [W4_size] at this; omega
  · exact ((Tq.below (P := fun k => k = b ∨ k = w.heap.size + 3) (W4_low w b)).trans (t.mono fun k _ e => .inr e)).mono fun k hk e => e.elim id (fun e => by omega)
end Go.Proofs.Ytepgifapepaheaa
