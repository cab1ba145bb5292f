/-
  Layer 13: structs in blocks of their own: whole loads and stores, behind names of their own.
-/
import Derived.Test.YtcppgpcgbggdcaaDoorRpr
namespace Go.Proofs.YtcppgpcgbggdcaaDoor
set_option linter.unusedVariables false
set_option linter.unusedSimpArgs false
open Go.ChangeShapes Go.WideShapes Go.ChangeAt Go.RowKit

theorem hid_of {p : Prop} (h : p) : Hid p := h
/-- A struct's cells, in a block of their own. -/
def BA (w : World) (g : Nat) (ty : TypeId) (cs : Array Value) : Prop := w.heap[g]? = some (.cells cs ty (0, 0))
def ldT (ty : TypeId) (a : Addr) : Sem Value := loadVar ty a
def stT (ty : TypeId) (a : Addr) (v : Value) : Sem Unit := storeVar ty a v
theorem ldC_seal (a : Addr) : loadVar 53 a = ldT 53 a := rfl
theorem ldV_seal (a : Addr) : loadVar 69 a = ldT 69 a := rfl
theorem ldP_seal (a : Addr) : loadVar 63 a = ldT 63 a := rfl
theorem ldS_seal (a : Addr) : loadVar 26 a = ldT 26 a := rfl
theorem stC_seal (a : Addr) (v : Value) : storeVar 53 a v = stT 53 a v := rfl
theorem stV_seal (a : Addr) (v : Value) : storeVar 69 a v = stT 69 a v := rfl
theorem stP_seal (a : Addr) (v : Value) : storeVar 63 a v = stT 63 a v := rfl
theorem stS_seal (a : Addr) (v : Value) : storeVar 26 a v = stT 26 a v := rfl
theorem BA.new (w : World) (ty : TypeId) (cs : Array Value) : BA (w.alloc (.cells cs ty)) w.heap.size ty cs := blk_new w _
theorem BA.lt {w : World} {g : Nat} {ty : TypeId} {cs : Array Value} (h : BA w g ty cs) : g < w.heap.size := (Array.getElem?_eq_some_iff.1 h).1
theorem BA.below {w w' : World} {g : Nat} {ty : TypeId} {cs : Array Value} (h : BA w g ty cs) (hb : Below w.heap.size w w') : BA w' g ty cs := (hb.block g h.lt).trans h
theorem BA.keep {w w' : World} {g b : Nat} {ty : TypeId} {cs : Array Value} (h : BA w g ty cs) (hg : w.grownBy w' (some b)) (hne : g ≠ b) : BA w' g ty cs := blk_keep h hg hne
theorem BA.set {w : World} {g j : Nat} {ty : TypeId} {cs : Array Value} (h : BA w g ty cs) (v : Value) : BA (w.setCell ⟨g, j, none⟩ v) g ty (cs.setIfInBounds j v) := Go.Joins.block_setCell h v
theorem BA.tq {w w' : World} {g : Nat} {ty : TypeId} {cs : Array Value} {P : Nat → Prop} (h : BA w g ty cs) (t : Tq w w' P) (hp : ¬ P g) : BA w' g ty cs := (t.blk g h.lt hp).trans h
theorem BA.cell {w : World} {g : Nat} {ty : TypeId} {cs : Array Value} (h : BA w g ty cs) (j : Nat) : w.cell? ⟨g, j, none⟩ = cs[j]? := blk_cell h j
theorem BA.fz {w : World} {g : Nat} {ty : TypeId} {cs : Array Value} (h : BA w g ty cs) (j : Nat) : w.frozen? ⟨g, j, none⟩ = false := blk_fz h j
theorem ldT_run {w : World} {g : Nat} {ty : TypeId} {cs : Array Value} {d : TypeDesc} (h : BA w g ty cs) (hu : Tryd.prog.underlying ty = some d) (hd : d.isRow = true) (hi : (Tryd.prog.info? ty).map (·.size) = some cs.size) : (ldT ty ⟨g, 0, none⟩).run Tryd.prog w = .ok (.agg cs) w := load_blk h hu hd hi
theorem ldT_mid {w : World} {g o : Nat} {ty : TypeId} {cs : Array Value} {d : TypeDesc} (h : ∀ j v, cs.toList[j]? = some v → w.cell? ⟨g, o + j, none⟩ = some v) (hu : Tryd.prog.underlying ty = some d) (hd : d.isRow = true) (hi : (Tryd.prog.info? ty).map (·.size) = some cs.size) : (ldT ty ⟨g, o, none⟩).run Tryd.prog w = .ok (.agg cs) w := by
  have := run_loadVar_mid (P := Tryd.prog) w g o ty cs.toList d h hu hd (by simpa using hi)
  have e : cs.toList.toArray = cs := by simp
  rw [e] at this
  exact this
def putK (Y : Array Value) : Nat → List Value → Array Value
  | _, [] => Y
  | k, v :: r => putK (Y.setIfInBounds k v) (k + 1) r
theorem cells_put {g : Nat} {t : TypeId} {fr : Nat × Nat} : ∀ (vs : List Value) (k : Nat) (w : World) (Y : Array Value), w.heap[g]? = some (.cells Y t fr) → (w.setCells g k vs).heap[g]? = some (.cells (putK Y k vs) t fr)
  | [], _, _, _, h => h
  | v :: r, k, w, Y, h => by rw [World.setCells, putK]; exact cells_put r (k + 1) _ _ (Go.Joins.block_setCell h v)
theorem tq_cells {g : Nat} : ∀ (l : List Value) (k : Nat) (X : World), Tq X (X.setCells g k l) (fun x => x = g)
  | [], _, X => ⟨rfl, rfl, rfl, Nat.le_refl _, fun _ _ _ => rfl⟩
  | v :: r, k, X => Tq.trans (P := fun x => x = g) (Tq.set (P := fun x => x = g) rfl) (tq_cells r (k + 1) _)
theorem putK_all : ∀ (vs p q : List Value), q.length = vs.length → putK (p ++ q).toArray p.length vs = (p ++ vs).toArray
  | [], p, q, h => by
    have : q = [] := List.length_eq_zero_iff.1 h
    rw [this]; rfl
  | v :: r, p, [], h => by cases h
  | v :: r, p, a :: q, h => by
    rw [putK]
    have h1 : ((p ++ a :: q).toArray.setIfInBounds p.length v) = ((p ++ [v]) ++ q).toArray := by
      rw [List.setIfInBounds_toArray]
      congr 1
      rw [List.set_append_right _ _ (Nat.le_refl _)]
      simp
    rw [h1]
    have := putK_all r (p ++ [v]) q (by simpa using h)
    rw [List.length_append] at this
    have h2 : (p ++ [v]).length = p.length + 1 := by simp
    rw [show p.length + [v].length = p.length + 1 from rfl] at this
    rw [this]
    simp
theorem stT_run {w : World} {g : Nat} {ty : TypeId} {cs0 : Array Value} (cs : Array Value) (h : BA w g ty cs0) (hs : cs0.size = cs.size) (hi : (Tryd.prog.info? ty).map (·.size) = some cs.size) (h1 : (cs.all fun x => x.oneCell') = true) : ∃ Y, (stT ty ⟨g, 0, none⟩ (.agg cs)).run Tryd.prog w = .ok () Y ∧ BA Y g ty cs ∧ Tq w Y (fun k => k = g) := by
  have hr := run_storeVar_mid (P := Tryd.prog) w g 0 ty cs (fun j hj => by
    rw [Nat.zero_add, blk_cell h j]
    have hj2 : j < cs0.size := by omega
    exact ⟨by rw [Array.getElem?_eq_getElem hj2]; rfl, blk_fz h j⟩) hi h1
  have hp := cells_put cs.toList 0 w _ h
  have := putK_all cs.toList [] cs0.toList (by simpa using hs)
  simp only [List.nil_append, Array.toArray_toList, List.length_nil] at this
  rw [this] at hp
  exact ⟨_, hr, hp, tq_cells _ _ _⟩
/-- A block that is new since some world is filled. -/
theorem Tq.gbn {w X Y : World} {b g : Nat} (h : w.grownBy X (some b)) (t : Tq X Y (fun k => k = g)) (hg : w.heap.size ≤ g) : w.grownBy Y (some b) :=
  ⟨t.os.trans h.os, t.tape.trans h.tape, t.output.trans h.output, Nat.le_trans h.size t.size, fun k hk hne => (t.blk k (Nat.lt_of_lt_of_le hk h.size) (by omega)).trans (h.block k hk hne)⟩
theorem Tq.bel {X Y : World} {g : Nat} (t : Tq X Y (fun k => k = g)) {n : Nat} (hn : n ≤ X.heap.size) (hg : n ≤ g) : Below n X Y := ⟨t.os, t.tape, t.output, t.size, fun k hk => t.blk k (by omega) (by omega)⟩
theorem Tq.rd {X Y : World} {b len cap g : Nat} {a : Option Addr} {f : Nat → Int} {s : St} (t : Tq X Y (fun k => k = g)) (hr : Rdr X b a len cap f s) (hb : b ≠ g) (ha : ∀ ad, a = some ad → ad.block ≠ g) : Rdr Y b a len cap f s := t.rdr hr hb ha
end Go.Proofs.YtcppgpcgbggdcaaDoor
