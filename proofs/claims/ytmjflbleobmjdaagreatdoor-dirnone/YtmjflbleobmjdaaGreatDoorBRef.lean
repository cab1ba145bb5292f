/-
  How the document's disk lies in memory.
-/
import Derived.Test.YtmjflbleobmjdaaGreatDoorImage
import Derived.Deep.RegionLaw
namespace Go.Proofs.YtmjflbleobmjdaaGreatDoor
open Go.ChangeShapes Go.WideShapes Go.ChangeAt Go.RowKit
attribute [local go_sem ↓] loadSec_seal storeSec_seal eqlSec_seal zeroSec
attribute [local go_sem] loadSec_run storeSec_run rowAt_at rowAt_old rowAt_drew rowAt_drewN roomSec_new roomAt_old roomAt_drew roomAt_drewN putSec_new putRow_past rowSec_put size_put putRow_drew putRow_drewN alloc_drewN setCell_drewN sec_size

set_option linter.unusedVariables false

def strs (F : Nat → ByteArray) (n : Nat) : List Value := (List.range n).map fun i => .string (F i)
theorem strs_len (F : Nat → ByteArray) (n : Nat) : (strs F n).length = n := by simp [strs]
theorem strs_at (F : Nat → ByteArray) {n i : Nat} (h : i < n) : (strs F n)[i]? = some (.string (F i)) := by simp [strs, h]
theorem strs_succ (F : Nat → ByteArray) (n : Nat) : strs F n ++ [.string (F n)] = strs F (n + 1) := by simp [strs, List.range_succ]
structure Rk where
  n : Nat
  F : Nat → ByteArray
  fv : Value
  m : Nat
  wn : Nat → Nat
  C : Nat → ByteArray
  wv : Value
def rcells (wn : Nat → Nat) (C : Nat → ByteArray) : Nat → List Value
  | 0 => []
  | k + 1 => rcells wn C k ++ [.int .i64 (wn k), .string (C k)]
theorem rcells_len (wn : Nat → Nat) (C : Nat → ByteArray) : ∀ m, (rcells wn C m).length = m * 2
  | 0 => rfl
  | m + 1 => by rw [rcells, List.length_append, rcells_len wn C m]; simp; omega
theorem rcells_at (wn : Nat → Nat) (C : Nat → ByteArray) {k : Nat} : ∀ m, k < m → (rcells wn C m)[k * 2]? = some (.int .i64 (wn k)) ∧ (rcells wn C m)[k * 2 + 1]? = some (.string (C k))
  | 0, h => by omega
  | m + 1, h => by
    rw [rcells]
    by_cases e : k = m
    · subst e
      have hl := rcells_len wn C k
      rw [List.getElem?_append_right (by omega), List.getElem?_append_right (by omega), hl]
      simp
    · have hl := rcells_len wn C m
      rw [List.getElem?_append_left (by omega), List.getElem?_append_left (by omega)]
      exact rcells_at wn C m (by omega)
theorem rcells_upd (wn : Nat → Nat) (C : Nat → ByteArray) (k n : Nat) (s : ByteArray) : ∀ m, m ≤ k → rcells (upd wn k n) (upd C k s) m = rcells wn C m
  | 0, _ => rfl
  | m + 1, h => by rw [rcells, rcells, rcells_upd wn C k n s m (by omega), upd_ne _ _ (by omega), upd_ne _ _ (by omega)]
def Rk.mut (R : Rk) (r x : Nat) : Prop := x = r ∨ R.fv.ownBlock = some x ∨ R.wv.ownBlock = some x
theorem ownV {w : World} {e : TypeId} {s n : Nat} {v : Value} {xs : List Value} (h : w.ownsRow 0 e s v n xs) : ∃ a c, v = .slice a n c := by
  rcases h.2 with ⟨e, e0⟩ | ⟨g, cap, _, e, _⟩
  · exact ⟨none, 0, by rw [e, e0]⟩
  · exact ⟨_, _, e⟩
def Rk.firstTo (R : Rk) (s : ByteArray) (g c : Nat) : Rk := { R with n := R.n + 1, F := upd R.F R.n s, fv := .slice (some ⟨g, 0, none⟩) (R.n + 1) c }
def Rk.rowTo (R : Rk) (n : Nat) (s : ByteArray) (g c : Nat) : Rk := { R with m := R.m + 1, wn := upd R.wn R.m n, C := upd R.C R.m s, wv := .slice (some ⟨g, 0, none⟩) (R.m + 1) c }
theorem strs_upd (F : Nat → ByteArray) (k : Nat) (s : ByteArray) : strs (upd F k s) (k + 1) = strs F k ++ [.string s] := by
  rw [← strs_succ, upd_at]
  congr 1
  exact List.map_congr_left fun i hi => by rw [upd_ne _ _ (by have := List.mem_range.1 hi; omega)]
/-- A block of two cells, one of which is set. -/
theorem two_set {w : World} {r : Nat} {a b : Value} (hb : rowAt w r = some #[a, b]) (hr : roomAt w r 2 = true) (v : Value) : (rowAt (w.setCell ⟨r, 0, none⟩ v) r = some #[v, b] ∧ roomAt (w.setCell ⟨r, 0, none⟩ v) r 2 = true) ∧ (rowAt (w.setCell ⟨r, 1, none⟩ v) r = some #[a, v] ∧ roomAt (w.setCell ⟨r, 1, none⟩ v) r 2 = true) := by
  unfold roomAt at hr
  unfold rowAt at hb
  split at hr
  case h_2 => cases hr
  rename_i Y t fr hY
  rw [hY] at hb
  have hb : Y = #[a, b] := Option.some.inj hb
  have hfr : fr = (0, 0) := by simp at hr; exact hr.2
  subst hb hfr
  have b0 := Go.Joins.block_setCell (i := 0) hY v
  have b1 := Go.Joins.block_setCell (i := 1) hY v
  refine ⟨⟨?_, ?_⟩, ?_, ?_⟩
  · unfold rowAt; rw [b0]; rfl
  · unfold roomAt; rw [b0]; rfl
  · unfold rowAt; rw [b1]; rfl
  · unfold roomAt; rw [b1]; rfl
end Go.Proofs.YtmjflbleobmjdaaGreatDoor
