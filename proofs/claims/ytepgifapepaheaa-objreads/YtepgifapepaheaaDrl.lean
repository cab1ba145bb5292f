/-
  Layer 7, the document's side: rows of an object that grow while it is read.
-/
import Derived.Test.YtepgifapepaheaaDrs
namespace Go.Proofs.Ytepgifapepaheaa
set_option linter.unusedVariables false
set_option linter.unusedSimpArgs false
open Go.ChangeShapes Go.WideShapes Go.ChangeAt Go.RowKit

/-- An element put behind a row of the call's own. -/
theorem app_el {X : World} {B n k by_ : Nat} {v : Value} {xs : List Value} {ts e : TypeId} {i : TypeInfo} {z : Value} (ht : Try.prog.underlying ts = some (.slice e)) (hi : Try.prog.info? e = some i) (hz : i.zero = some z) (hsize : i.size = k) (hby : i.bytes = by_) (hzs : z.cells.size = k) (hk : 0 < k) (hb : by_ ≤ 1000) (cs : Array Value) (hcs : cs.size = k) (h1 : ∀ u ∈ cs.toList, u.oneCell' = true) (h : X.ownsRow B e k v n xs) (hB : B ≤ X.heap.size) (hn : n ≤ 100000) :
    ∃ (s : Sl) (Y : World), (appN #[ts, ts] ts #[v, .slice (some ⟨X.heap.size, 0, none⟩) 1 1]).run Try.prog (X.alloc (.cells cs e)) = .ok (.slice s.a s.n s.c) Y ∧ Y.ownsRow B e k (.slice s.a s.n s.c) (n + 1) (xs ++ cs.toList) ∧ (X.alloc (.cells cs e)).grownBy Y v.ownBlock := by
  have hbl : (X.alloc (.cells cs e)).ownsRow B e k v n xs := h.alloc _
  have hbm : (n + 1) * by_ ≤ 100001 * 1000 := Nat.mul_le_mul (by omega) hb
  obtain ⟨v', Y, r1, r2, r3, _⟩ := run_append_own (P := Try.prog) (w := X.alloc (.cells cs e)) B ts ts e i z k by_ ht hi hz hsize hby hzs hk v n xs hbl ⟨X.heap.size, 0, none⟩ 1 1 cs.toList (by rw [Array.length_toList, hcs, Nat.one_mul]) (fun j u hu => by
    have hbk : (X.alloc (.cells cs e)).heap[X.heap.size]? = some (.cells cs e (0, 0)) := blk_new _ _
    rw [Go.WideShapes.add_plain, Nat.zero_add, blk_cell hbk]
    simpa using hu) h1 (by unfold maxLen; omega) (by omega) (by simp; omega)
  obtain ⟨va, vn, vc, rfl⟩ := own_slice r2
  exact ⟨⟨va, vn, vc⟩, Y, r1, r2, r3⟩
/-- What stands while an object's rows grow: the reader, the object's place, the answer's. -/
structure LI (X0 X : World) (b len cap : Nat) (a : Option Addr) (f : Nat → Int) (ob rs : Nat) (c : Oc) (s : St) : Prop where
  rd : DRd X b a len cap f s
  bx : OAt X ob c
  rz : OAt X rs Oc.zero
  tq : Tq X0 X (fun y => y = b ∨ y = ob)
/-- Where things lie. -/
structure Pl (X0 : World) (b ob rs : Nat) (a : Option Addr) : Prop where
  bo : b ≠ ob
  br : b ≠ rs
  or_ : ob ≠ rs
  lb : b < X0.heap.size
  lo : ob < X0.heap.size
  lr : rs < X0.heap.size
  ad : ∀ x, a = some x → x.block ≠ ob ∧ x.block ≠ rs ∧ x.block < X0.heap.size
section
variable {X0 X w1 : World} {b len cap : Nat} {a : Option Addr} {f : Nat → Int} {ob rs : Nat} {c : Oc} {s s1 : St}
theorem LI.size (h : LI X0 X b len cap a f ob rs c s) : X0.heap.size ≤ X.heap.size := h.tq.size
theorem LI.read (h : LI X0 X b len cap a f ob rs c s) (p : Pl X0 b ob rs a) (hr : DRd w1 b a len cap f s1) (hg : X.grownBy w1 (some b)) : LI X0 w1 b len cap a f ob rs c s1 :=
  ⟨hr, (hg.block ob h.bx.lt (fun e => p.bo (by injection e with e; exact e.symm))).trans h.bx, (hg.block rs h.rz.lt (fun e => p.br (by injection e with e; exact e.symm))).trans h.rz, h.tq.trans (Tq.gb hg fun k e => by injection e with e; exact .inl e.symm)⟩
theorem LI.drew (h : LI X0 X b len cap a f ob rs c s) : LI X0 X.drew b len cap a f ob rs c s :=
  ⟨h.rd.below (Below.refl _ _).drew, h.bx, h.rz, h.tq.trans (Tq.below (Below.refl X.heap.size X).drew)⟩
theorem LI.alloc (h : LI X0 X b len cap a f ob rs c s) (x : Obj) : LI X0 (X.alloc x) b len cap a f ob rs c s :=
  ⟨h.rd.below ((Below.refl _ _).alloc (Nat.le_refl _) _), (Below.heap_alloc _ _ _ h.bx.lt).trans h.bx, (Below.heap_alloc _ _ _ h.rz.lt).trans h.rz, h.tq.trans (Tq.below ((Below.refl _ _).alloc (Nat.le_refl _) _))⟩
theorem own_read {E : TypeId} {k : Nat} {v : Value} {n : Nat} {xs : List Value} (ho : X.ownsRow X0.heap.size E k v n xs) (p : Pl X0 b ob rs a) (hg : X.grownBy w1 (some b)) : w1.ownsRow X0.heap.size E k v n xs := own_gb ho p.lb hg
theorem own_drew {E : TypeId} {k B : Nat} {v : Value} {n : Nat} {xs : List Value} (ho : X.ownsRow B E k v n xs) : X.drew.ownsRow B E k v n xs := ho
/-- One field's row has grown. -/
theorem LI.app {E ts : TypeId} {k by_ n j : Nat} {xs : List Value} {i : TypeInfo} {z : Value} {sl : Sl} {c' : Sl → Oc} (h : LI X0 X b len cap a f ob rs c s) (p : Pl X0 b ob rs a) (ht : Try.prog.underlying ts = some (.slice E)) (hi : Try.prog.info? E = some i) (hz : i.zero = some z) (hsize : i.size = k) (hby : i.bytes = by_) (hzs : z.cells.size = k) (hk : 0 < k) (hb : by_ ≤ 1000) (cs : Array Value) (hcs : cs.size = k) (h1 : ∀ u ∈ cs.toList, u.oneCell' = true)
    (ho : X.ownsRow X0.heap.size E k (.slice sl.a sl.n sl.c) n xs) (hn : n ≤ 100000) (hj : c.cells[j]? = some (.slice sl.a sl.n sl.c)) (hset : ∀ (Y : World) (s' : Sl), OAt Y ob c → OAt (Y.setCell ⟨ob, j, none⟩ (.slice s'.a s'.n s'.c)) ob (c' s')) :
    ∃ (s' : Sl) (Y : World), (appN #[ts, ts] ts #[.slice sl.a sl.n sl.c, .slice (some ⟨X.heap.size, 0, none⟩) 1 1]).run Try.prog (X.alloc (.cells cs E)) = .ok (.slice s'.a s'.n s'.c) Y ∧ Y.cell? ⟨ob, j, none⟩ = some (.slice sl.a sl.n sl.c) ∧ Y.frozen? ⟨ob, j, none⟩ = false ∧ X.cell? ⟨ob, j, none⟩ = some (.slice sl.a sl.n sl.c) ∧ (X.alloc (.cells cs E)).cell? ⟨ob, j, none⟩ = some (.slice sl.a sl.n sl.c) ∧ Hid (LI X0 (Y.setCell ⟨ob, j, none⟩ (.slice s'.a s'.n s'.c)) b len cap a f ob rs (c' s') s ∧ (Y.setCell ⟨ob, j, none⟩ (.slice s'.a s'.n s'.c)).ownsRow X0.heap.size E k (.slice s'.a s'.n s'.c) (n + 1) (xs ++ cs.toList) ∧ ∀ (E2 : TypeId) (k2 : Nat) (v2 : Value) (n2 : Nat) (xs2 : List Value), E ≠ E2 → X.ownsRow X0.heap.size E2 k2 v2 n2 xs2 → (Y.setCell ⟨ob, j, none⟩ (.slice s'.a s'.n s'.c)).ownsRow X0.heap.size E2 k2 v2 n2 xs2) := by
  obtain ⟨s', Y, r1, r2, r3⟩ := app_el ht hi hz hsize hby hzs hk hb cs hcs h1 ho h.size hn
  have hA := h.alloc (.cells cs E)
  have hlo : ∀ g, (Value.slice sl.a sl.n sl.c).ownBlock = some g → X0.heap.size ≤ g := fun g hg => own_lo ho g hg
  have tY : Tq (X.alloc (.cells cs E)) Y (fun g => (Value.slice sl.a sl.n sl.c).ownBlock = some g) := Tq.gb r3 fun k e => e
  have p1 := p.lb
  have p2 := p.lo
  have p3 := p.lr
  have oY : OAt Y ob c := hA.bx.tq tY (fun e => by have := hlo ob e; omega)
  have zY : OAt Y rs Oc.zero := hA.rz.tq tY (fun e => by have := hlo rs e; omega)
  have dY : DRd Y b a len cap f s := hA.rd.tq tY (fun e => by have := hlo b e; omega) (fun ad he e => by have := hlo _ e; have := (p.ad ad he).2.2; omega)
  have tS : Tq Y (Y.setCell ⟨ob, j, none⟩ (.slice s'.a s'.n s'.c)) (fun g => g = ob) := Tq.set rfl
  refine ⟨s', Y, r1, (blk_cell oY j).trans hj, blk_fz oY j, (blk_cell h.bx j).trans hj, (blk_cell hA.bx j).trans hj, ⟨dY.tq tS p.bo (fun ad he => (p.ad ad he).1), hset Y s' oY, zY.tq tS (fun e => p.or_ e.symm), ?_⟩, tS.own r2 (fun g hg => by have := own_lo r2 g hg; omega), fun E2 k2 v2 n2 xs2 hne ho2 => ?_⟩
  · refine ((hA.tq.mono (Q := fun y => (y = b ∨ y = ob) ∨ X0.heap.size ≤ y) fun k _ e => .inl e).trans ((tY.mono (Q := fun y => (y = b ∨ y = ob) ∨ X0.heap.size ≤ y) fun k _ e => .inr (hlo k e)).trans (tS.mono fun k _ e => .inl (.inr e)))).mono fun k hk e => ?_
    rcases e with e | e
    · exact e
    · omega
  · have hA2 : (X.alloc (.cells cs E)).ownsRow X0.heap.size E2 k2 v2 n2 xs2 := ho2.alloc _
    have hA1 : (X.alloc (.cells cs E)).ownsRow X0.heap.size E k (.slice sl.a sl.n sl.c) n xs := ho.alloc _
    have hY2 := tY.own hA2 (fun g hg e => own_two hA1 hA2 hne e hg)
    exact tS.own hY2 (fun g hg => by have := own_lo hY2 g hg; omega)
end
/-- The same, with a thing of its own that is being filled in block D. -/
structure MI (X0 X : World) (b len cap : Nat) (a : Option Addr) (f : Nat → Int) (ob rs : Nat) (c : Oc) (s : St) (D : Nat) (cs : Array Value) (t : TypeId) (E : TypeId) (k : Nat) (v : Value) (n : Nat) (xs : List Value) : Prop where
  li : LI X0 X b len cap a f ob rs c s
  ow : X.ownsRow X0.heap.size E k v n xs
  bd : X.heap[D]? = some (.cells cs t (0, 0))
  lo : X0.heap.size ≤ D
  ne : v.ownBlock ≠ some D
section
variable {X0 X w1 : World} {b len cap : Nat} {a : Option Addr} {f : Nat → Int} {ob rs : Nat} {c : Oc} {s s1 : St} {D : Nat} {cs : Array Value} {t E : TypeId} {k n : Nat} {v : Value} {xs : List Value}
theorem MI.new (h : LI X0 X b len cap a f ob rs c s) (ho : X.ownsRow X0.heap.size E k v n xs) (cs : Array Value) (t : TypeId) : MI X0 (X.alloc (.cells cs t)) b len cap a f ob rs c s X.heap.size cs t E k v n xs :=
  ⟨h.alloc _, ho.alloc _, blk_new _ _, h.size, fun e => by have := (ho.lt _ e).2; omega⟩
theorem MI.read (h : MI X0 X b len cap a f ob rs c s D cs t E k v n xs) (p : Pl X0 b ob rs a) (hr : DRd w1 b a len cap f s1) (hg : X.grownBy w1 (some b)) : MI X0 w1 b len cap a f ob rs c s1 D cs t E k v n xs :=
  ⟨h.li.read p hr hg, own_read h.ow p hg, (hg.block D (Array.getElem?_eq_some_iff.1 h.bd).1 (fun e => by injection e with e; have := p.lb; have := h.lo; omega)).trans h.bd, h.lo, h.ne⟩
theorem MI.set (h : MI X0 X b len cap a f ob rs c s D cs t E k v n xs) (p : Pl X0 b ob rs a) (j : Nat) (u : Value) : MI X0 (X.setCell ⟨D, j, none⟩ u) b len cap a f ob rs c s D (cs.setIfInBounds j u) t E k v n xs := by
  have tS : Tq X (X.setCell ⟨D, j, none⟩ u) (fun g => g = D) := Tq.set rfl
  have lo := h.lo
  have p1 := p.lb
  have p2 := p.lo
  have p3 := p.lr
  refine ⟨⟨h.li.rd.tq tS (by omega) (fun ad he => by have := (p.ad ad he).2.2; omega), h.li.bx.tq tS (by omega), h.li.rz.tq tS (by omega), ?_⟩, tS.own h.ow (fun g hg e => h.ne (by rw [hg, e])), Go.Joins.block_setCell h.bd _, h.lo, h.ne⟩
  refine ((h.li.tq.mono (Q := fun y => (y = b ∨ y = ob) ∨ X0.heap.size ≤ y) fun k _ e => .inl e).trans (tS.mono fun k _ e => .inr (by rw [e]; exact lo))).mono fun k hk e => ?_
  rcases e with e | e
  · exact e
  · omega
theorem MI.cell (h : MI X0 X b len cap a f ob rs c s D cs t E k v n xs) (j : Nat) : X.cell? ⟨D, j, none⟩ = cs[j]? := blk_cell h.bd j
theorem MI.fz (h : MI X0 X b len cap a f ob rs c s D cs t E k v n xs) (j : Nat) : X.frozen? ⟨D, j, none⟩ = false := blk_fz h.bd j
end
/-- How far a row was read: all that will come of it, or that it is stuck. -/
def Lp {α : Type} (rd : St → α × St) (R : List α × St) (m : Nat) (acc : List α) (s : St) : Prop := (s.st = false ∧ loopS rd m acc s = R) ∨ (s.st = true ∧ R.2 = s)
theorem Lp.start {α : Type} (rd : St → α × St) (m : Nat) (s : St) (h : s.st = true → m = 0) : Lp rd (loopS rd m [] s) m [] s := by
  cases hs : s.st
  · exact .inl ⟨hs, rfl⟩
  · have := h hs
    subst this
    exact .inr ⟨hs, rfl⟩
theorem Lp.next {α : Type} {rd : St → α × St} {R : List α × St} {m : Nat} {acc : List α} {s : St} (h : Lp rd R (m + 1) acc s) (hs : s.st = false) : Lp rd R m (acc ++ [(rd s).1]) (rd s).2 := by
  rcases h with ⟨_, h⟩ | ⟨e, _⟩
  · rw [loopS] at h
    cases hx : (rd s).2.st
    · rw [hx] at h
      exact .inl ⟨hx, h⟩
    · rw [hx] at h
      exact .inr ⟨hx, by rw [← h]; rfl⟩
  · rw [hs] at e; cases e
theorem Lp.fin {α : Type} {rd : St → α × St} {R : List α × St} {m : Nat} {acc : List α} {s : St} (h : Lp rd R m acc s) (hm : m = 0 ∨ s.st = true) : R.2 = s ∧ (s.st = false → R.1 = acc) := by
  rcases h with ⟨h1, h2⟩ | ⟨h1, h2⟩
  · rcases hm with rfl | hm
    · rw [← h2]; exact ⟨rfl, fun _ => rfl⟩
    · rw [h1] at hm; cases hm
  · exact ⟨h2, fun e => by rw [h1] at e; cases e⟩
theorem num_zero {f : Nat → Int} {len : Nat} {most : Int} {s : St} (h : (numS f len most s).2.st = true) : (numS f len most s).1 = 0 := by
  unfold numS at h ⊢
  cases hu : uintR f len s.p with
  | none => rfl
  | some r =>
    obtain ⟨n, i⟩ := r
    rw [hu] at h
    simp only at h ⊢
    split
    · rename_i hc
      rw [if_pos hc] at h
      cases h
    · rfl
end Go.Proofs.Ytepgifapepaheaa
