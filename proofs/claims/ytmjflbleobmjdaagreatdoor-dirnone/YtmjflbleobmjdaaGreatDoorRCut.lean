/-
  The document's disk: its writes in order, the image behind so many writes.
-/
import Derived.Test.YtmjflbleobmjdaaGreatDoorBRWrite
import Derived.Lib.AppendStr
namespace Go.Proofs.YtmjflbleobmjdaaGreatDoor
open Go.ChangeShapes Go.WideShapes Go.ChangeAt Go.RowKit
attribute [local go_sem ↓] loadSec_seal storeSec_seal eqlSec_seal zeroSec
attribute [local go_sem] loadSec_run storeSec_run rowAt_at rowAt_old rowAt_drew rowAt_drewN roomSec_new roomAt_old roomAt_drew roomAt_drewN putSec_new putRow_past rowSec_put size_put putRow_drew putRow_drewN alloc_drewN setCell_drewN sec_size

set_option linter.unusedVariables false
set_option linter.unusedVariables false

theorem strF_size' (f : Nat → Int) (n : Nat) : (strF f n).size = n := by rw [strF, strOfNums_size]; simp
def wints (wn : Nat → Nat) (n : Nat) : List Value := (List.range n).map fun i => .int .i64 (wn i)
theorem wints_succ (wn : Nat → Nat) (n : Nat) : wints wn n ++ [.int .i64 (wn n)] = wints wn (n + 1) := by simp [wints, List.range_succ]
theorem wints_at (wn : Nat → Nat) {n i : Nat} (h : i < n) : (wints wn n)[i]? = some (.int .i64 (wn i)) := by simp [wints, h]
theorem strCells_row {f : Nat → Int} {n : Nat} (h : ∀ i, i < n → 0 ≤ f i ∧ f i ≤ 255) : Lib.strCells (strF f n) = rowOf f n := by
  have e2 : (strF f n).data.toList = ((List.range n).map f).map fun n => UInt8.ofNat n.toNat := strOfNums_data _
  unfold Lib.strCells rowOf
  rw [e2, List.map_map, List.map_map]
  apply List.map_congr_left
  intro i hi
  have hb := h i (List.mem_range.1 hi)
  simp
  omega
end Go.Proofs.YtmjflbleobmjdaaGreatDoor
