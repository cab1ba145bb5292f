/-
  How the document's disk lies in memory.
-/
import Derived.Test.YtbkkjnafnckleaaBMeth
import Derived.Deep.RegionLaw
namespace Go.Proofs.Ytbkkjnafnckleaa
open Go.ChangeShapes Go.WideShapes Go.ChangeAt Go.RowKit
attribute [local go_sem ↓] loadSec_seal storeSec_seal eqlSec_seal zeroSec
attribute [local go_sem] loadSec_run storeSec_run rowAt_at rowAt_old rowAt_drew rowAt_drewN roomSec_new roomAt_old roomAt_drew roomAt_drewN putSec_new putRow_past rowSec_put size_put putRow_drew putRow_drewN alloc_drewN setCell_drewN sec_size

set_option linter.unusedVariables false

def strs (F : Nat → ByteArray) (n : Nat) : List Value := (List.range n).map fun i => .string (F i)
theorem strs_len (F : Nat → ByteArray) (n : Nat) : (strs F n).length = n := by simp [strs]
theorem strs_at (F : Nat → ByteArray) {n i : Nat} (h : i < n) : (strs F n)[i]? = some (.string (F i)) := by simp [strs, h]
theorem strs_succ (F : Nat → ByteArray) (n : Nat) : strs F n ++ [.string (F n)] = strs F (n + 1) := by simp [strs, List.range_succ]
structure Rk where
  n : Nat
  F : Nat → ByteArray
  fv : Value
  m : Nat
  wn : Nat → Nat
  C : Nat → ByteArray
  wv : Value
def rcells (wn : Nat → Nat) (C : Nat → ByteArray) : Nat → List Value
  | 0 => []
  | k + 1 => rcells wn C k ++ [.int .i64 (wn k), .string (C k)]
theorem rcells_len (wn : Nat → Nat) (C : Nat → ByteArray) : ∀ m, (rcells wn C m).length = m * 2
  | 0 => rfl
  | m + 1 => by rw [rcells, List.length_append, rcells_len wn C m]; simp; omega
theorem rcells_at (wn : Nat → Nat) (C : Nat → ByteArray) {k : Nat} : ∀ m, k < m → (rcells wn C m)[k * 2]? = some (.int .i64 (wn k)) ∧ (rcells wn C m)[k * 2 + 1]? = some (.string (C k))
  | 0, h => by omega
  | m + 1, h => by
    rw [rcells]
    by_cases e : k = m
    · subst e
      have hl := rcells_len wn C k
      rw [List.getElem?_append_right (by omega), List.getElem?_append_right (by omega), hl]
      simp
    · have hl := rcells_len wn C m
      rw [List.getElem?_append_left (by omega), List.getElem?_append_left (by omega)]
      exact rcells_at wn C m (by omega)
theorem rcells_upd (wn : Nat → Nat) (C : Nat → ByteArray) (k n : Nat) (s : ByteArray) : ∀ m, m ≤ k → rcells (upd wn k n) (upd C k s) m = rcells wn C m
  | 0, _ => rfl
  | m + 1, h => by rw [rcells, rcells, rcells_upd wn C k n s m (by omega), upd_ne _ _ (by omega), upd_ne _ _ (by omega)]
def Rk.mut (R : Rk) (r x : Nat) : Prop := x = r ∨ R.fv.ownBlock = some x ∨ R.wv.ownBlock = some x
structure RepR (w : World) (r : Nat) (R : Rk) : Prop where
  n1 : R.n ≤ 1024
  m1 : R.m ≤ 4096
  blk : rowAt w r = some #[R.fv, R.wv]
  room : roomAt w r 2 = true
  first : w.ownsRow 0 9 1 R.fv R.n (strs R.F R.n)
  row : w.ownsRow 0 105 2 R.wv R.m (rcells R.wn R.C R.m)
  d1 : ∀ x, R.fv.ownBlock = some x → x ≠ r ∧ R.wv.ownBlock ≠ some x
  d2 : ∀ x, R.wv.ownBlock = some x → x ≠ r
  lt : ∀ x, R.mut r x → x < w.heap.size
theorem RepR.keep {w w' : World} {r : Nat} {R : Rk} (h : RepR w r R) (hs : w.heap.size ≤ w'.heap.size) (hw : ∀ x, R.mut r x → w'.heap[x]? = w.heap[x]?) : RepR w' r R where
  n1 := h.n1
  m1 := h.m1
  blk := (rowAt_same (hw r (.inl rfl))).trans h.blk
  room := (roomAt_same (hw r (.inl rfl))).trans h.room
  first := own_same h.first fun x hx => hw x (.inr (.inl hx))
  row := own_same h.row fun x hx => hw x (.inr (.inr hx))
  d1 := h.d1
  d2 := h.d2
  lt := fun x hx => Nat.lt_of_lt_of_le (h.lt x hx) hs
theorem RepR.below {w w' : World} {r : Nat} {R : Rk} (h : RepR w r R) (hb : Below w.heap.size w w') : RepR w' r R := h.keep hb.size fun x hx => hb.block x (h.lt x hx)
theorem RepR.cell0 {w : World} {r : Nat} {R : Rk} (h : RepR w r R) : w.cell? ⟨r, 0, none⟩ = some R.fv ∧ w.frozen? ⟨r, 0, none⟩ = false := ⟨rowAt_cell h.blk 0, by have := (room_there h.room 0 (by omega)).2; simpa using this⟩
theorem RepR.cell1 {w : World} {r : Nat} {R : Rk} (h : RepR w r R) : w.cell? ⟨r, 1, none⟩ = some R.wv ∧ w.frozen? ⟨r, 1, none⟩ = false := ⟨rowAt_cell h.blk 1, by have := (room_there h.room 1 (by omega)).2; simpa using this⟩
theorem ownV {w : World} {e : TypeId} {s n : Nat} {v : Value} {xs : List Value} (h : w.ownsRow 0 e s v n xs) : ∃ a c, v = .slice a n c := by
  rcases h.2 with ⟨e, e0⟩ | ⟨g, cap, _, e, _⟩
  · exact ⟨none, 0, by rw [e, e0]⟩
  · exact ⟨_, _, e⟩
def Rk.firstTo (R : Rk) (s : ByteArray) (g c : Nat) : Rk := { R with n := R.n + 1, F := upd R.F R.n s, fv := .slice (some ⟨g, 0, none⟩) (R.n + 1) c }
def Rk.rowTo (R : Rk) (n : Nat) (s : ByteArray) (g c : Nat) : Rk := { R with m := R.m + 1, wn := upd R.wn R.m n, C := upd R.C R.m s, wv := .slice (some ⟨g, 0, none⟩) (R.m + 1) c }
theorem strs_upd (F : Nat → ByteArray) (k : Nat) (s : ByteArray) : strs (upd F k s) (k + 1) = strs F k ++ [.string s] := by
  rw [← strs_succ, upd_at]
  congr 1
  exact List.map_congr_left fun i hi => by rw [upd_ne _ _ (by have := List.mem_range.1 hi; omega)]
/-- A block of two cells, one of which is set. -/
theorem two_set {w : World} {r : Nat} {a b : Value} (hb : rowAt w r = some #[a, b]) (hr : roomAt w r 2 = true) (v : Value) : (rowAt (w.setCell ⟨r, 0, none⟩ v) r = some #[v, b] ∧ roomAt (w.setCell ⟨r, 0, none⟩ v) r 2 = true) ∧ (rowAt (w.setCell ⟨r, 1, none⟩ v) r = some #[a, v] ∧ roomAt (w.setCell ⟨r, 1, none⟩ v) r 2 = true) := by
  unfold roomAt at hr
  unfold rowAt at hb
  split at hr
  case h_2 => cases hr
  rename_i Y t fr hY
  rw [hY] at hb
  have hb : Y = #[a, b] := Option.some.inj hb
  have hfr : fr = (0, 0) := by simp at hr; exact hr.2
  subst hb hfr
  have b0 := Go.Joins.block_setCell (i := 0) hY v
  have b1 := Go.Joins.block_setCell (i := 1) hY v
  refine ⟨⟨?_, ?_⟩, ?_, ?_⟩
  · unfold rowAt; rw [b0]; rfl
  · unfold roomAt; rw [b0]; rfl
  · unfold rowAt; rw [b1]; rfl
  · unfold roomAt; rw [b1]; rfl
theorem rep_first {w w5 : World} {r g c : Nat} {R : Rk} {s : ByteArray} {vs : Obj} (h : RepR w r R) (hn : R.n < 1024) (hown : w5.ownsRow 0 9 1 (.slice (some ⟨g, 0, none⟩) (R.n + 1) c) (R.n + 1) (strs R.F R.n ++ [.string s])) (hgrow : (w.alloc vs).grownBy w5 R.fv.ownBlock) (hat : R.fv.ownBlock = some g ∨ g = w.heap.size + 1) :
    RepR (w5.setCell ⟨r, 0, none⟩ (.slice (some ⟨g, 0, none⟩) (R.n + 1) c)) r (R.firstTo s g c) ∧ Tou (R.mut r) w (w5.setCell ⟨r, 0, none⟩ (.slice (some ⟨g, 0, none⟩) (R.n + 1) c)) ∧ (∀ x, (R.firstTo s g c).mut r x → R.mut r x ∨ w.heap.size ≤ x) := by
  have r0 : r < w.heap.size := h.lt r (.inl rfl)
  have s0 : (w.alloc vs).heap.size = w.heap.size + 1 := by simp
  have s5 : w.heap.size + 1 ≤ w5.heap.size := by rw [← s0]; exact hgrow.size
  have same5 : ∀ x, x < w.heap.size → R.fv.ownBlock ≠ some x → w5.heap[x]? = w.heap[x]? := fun x hx h1 => by
    rw [hgrow.block x (by omega) (fun e => h1 e.symm), Below.heap_alloc _ _ _ hx]
  have fr : R.fv.ownBlock ≠ some r := fun e => (h.d1 r e).1 rfl
  have gr : g ≠ r := by
    rcases hat with e | e
    · exact (h.d1 g e).1
    · omega
  have gw : R.wv.ownBlock ≠ some g := by
    rcases hat with e | e
    · exact (h.d1 g e).2
    · intro e2; have := h.lt g (.inr (.inr e2)); omega
  have mutx : ∀ x, (R.firstTo s g c).mut r x → R.mut r x ∨ (x = g ∧ w.heap.size ≤ x) := fun x hx => by
    rcases hx with e | e | e
    · exact .inl (.inl e)
    · have e : g = x := Option.some.inj (show some g = some x from e)
      rcases hat with e2 | e2
      · exact .inl (.inr (.inl (e ▸ e2)))
      · exact .inr ⟨e.symm, by omega⟩
    · exact .inl (.inr (.inr e))
  have t5 := two_set ((rowAt_same (same5 r r0 fr)).trans h.blk) ((roomAt_same (same5 r r0 fr)).trans h.room) (.slice (some ⟨g, 0, none⟩) (R.n + 1) c)
  refine ⟨{
    n1 := hn
    m1 := h.m1
    blk := t5.1.1
    room := t5.1.2
    first := by
      show World.ownsRow _ 0 9 1 _ (R.n + 1) (strs (upd R.F R.n s) (R.n + 1))
      rw [strs_upd]
      refine own_same hown fun x hx => ?_
      have e := Option.some.inj (show some g = some x from hx)
      subst e
      exact Below.heap_setCell _ _ _ _ gr
    row := own_same h.row fun x hx => by
      have hx : R.wv.ownBlock = some x := hx
      rw [Below.heap_setCell _ _ _ _ (h.d2 x hx), same5 x (h.lt x (.inr (.inr hx))) (fun e => (h.d1 x e).2 hx)]
    d1 := fun x hx => by
      have e := Option.some.inj (show some g = some x from hx)
      subst e; exact ⟨gr, gw⟩
    d2 := h.d2
    lt := fun x hx => by
      rw [show (w5.setCell ⟨r, 0, none⟩ (.slice (some ⟨g, 0, none⟩) (R.n + 1) c)).heap.size = w5.heap.size by simp]
      rcases mutx x hx with h1 | ⟨h1, _⟩
      · have := h.lt x h1; omega
      · have := World.ownsRow.lt hown g rfl; omega }, ⟨hgrow.os, hgrow.tape, hgrow.output, by simp; omega, fun x hx hm => ?_⟩, fun x hx => (mutx x hx).imp id (·.2)⟩
  rw [Below.heap_setCell _ _ _ _ (fun e => hm (.inl e)), same5 x hx (fun e => hm (.inr (.inl e)))]
theorem rep_row {w w5 : World} {r g c n : Nat} {R : Rk} {s : ByteArray} {vs : Obj} (h : RepR w r R) (hm : R.m < 4096) (hown : w5.ownsRow 0 105 2 (.slice (some ⟨g, 0, none⟩) (R.m + 1) c) (R.m + 1) (rcells R.wn R.C R.m ++ [.int .i64 n, .string s])) (hgrow : (w.alloc vs).grownBy w5 R.wv.ownBlock) (hat : R.wv.ownBlock = some g ∨ g = w.heap.size + 1) :
    RepR (w5.setCell ⟨r, 1, none⟩ (.slice (some ⟨g, 0, none⟩) (R.m + 1) c)) r (R.rowTo n s g c) ∧ Tou (R.mut r) w (w5.setCell ⟨r, 1, none⟩ (.slice (some ⟨g, 0, none⟩) (R.m + 1) c)) ∧ (∀ x, (R.rowTo n s g c).mut r x → R.mut r x ∨ w.heap.size ≤ x) := by
  have r0 : r < w.heap.size := h.lt r (.inl rfl)
  have s0 : (w.alloc vs).heap.size = w.heap.size + 1 := by simp
  have s5 : w.heap.size + 1 ≤ w5.heap.size := by rw [← s0]; exact hgrow.size
  have same5 : ∀ x, x < w.heap.size → R.wv.ownBlock ≠ some x → w5.heap[x]? = w.heap[x]? := fun x hx h1 => by
    rw [hgrow.block x (by omega) (fun e => h1 e.symm), Below.heap_alloc _ _ _ hx]
  have fr : R.wv.ownBlock ≠ some r := fun e => h.d2 r e rfl
  have gr : g ≠ r := by
    rcases hat with e | e
    · exact h.d2 g e
    · omega
  have gw : R.fv.ownBlock ≠ some g := by
    rcases hat with e | e
    · exact fun e2 => (h.d1 g e2).2 e
    · intro e2; have := h.lt g (.inr (.inl e2)); omega
  have mutx : ∀ x, (R.rowTo n s g c).mut r x → R.mut r x ∨ (x = g ∧ w.heap.size ≤ x) := fun x hx => by
    rcases hx with e | e | e
    · exact .inl (.inl e)
    · exact .inl (.inr (.inl e))
    · have e : g = x := Option.some.inj (show some g = some x from e)
      rcases hat with e2 | e2
      · exact .inl (.inr (.inr (e ▸ e2)))
      · exact .inr ⟨e.symm, by omega⟩
  have t5 := two_set ((rowAt_same (same5 r r0 fr)).trans h.blk) ((roomAt_same (same5 r r0 fr)).trans h.room) (.slice (some ⟨g, 0, none⟩) (R.m + 1) c)
  refine ⟨{
    n1 := h.n1
    m1 := hm
    blk := t5.2.1
    room := t5.2.2
    first := own_same h.first fun x hx => by
      have hx : R.fv.ownBlock = some x := hx
      rw [Below.heap_setCell _ _ _ _ (h.d1 x hx).1, same5 x (h.lt x (.inr (.inl hx))) (h.d1 x hx).2]
    row := by
      have e : rcells (upd R.wn R.m n) (upd R.C R.m s) (R.m + 1) = rcells R.wn R.C R.m ++ [.int .i64 n, .string s] := by
        rw [rcells, rcells_upd _ _ _ _ _ _ (Nat.le_refl _), upd_at, upd_at]
      show World.ownsRow _ 0 _ 2 _ (R.m + 1) (rcells (upd R.wn R.m n) (upd R.C R.m s) (R.m + 1))
      rw [e]
      refine own_same hown fun x hx => ?_
      have e := Option.some.inj (show some g = some x from hx)
      subst e
      exact Below.heap_setCell _ _ _ _ gr
    d1 := fun x hx => ⟨(h.d1 x hx).1, fun e => by
      have e := Option.some.inj (show some g = some x from e)
      subst e; exact gw hx⟩
    d2 := fun x hx => by
      have e := Option.some.inj (show some g = some x from hx)
      subst e; exact gr
    lt := fun x hx => by
      rw [show (w5.setCell ⟨r, 1, none⟩ (.slice (some ⟨g, 0, none⟩) (R.m + 1) c)).heap.size = w5.heap.size by simp]
      rcases mutx x hx with h1 | ⟨h1, _⟩
      · have := h.lt x h1; omega
      · have := World.ownsRow.lt hown g rfl; omega }, ⟨hgrow.os, hgrow.tape, hgrow.output, by simp; omega, fun x hx hm => ?_⟩, fun x hx => (mutx x hx).imp id (·.2)⟩
  rw [Below.heap_setCell _ _ _ _ (fun e => hm (.inl e)), same5 x hx (fun e => hm (.inr (.inr e)))]
end Go.Proofs.Ytbkkjnafnckleaa
