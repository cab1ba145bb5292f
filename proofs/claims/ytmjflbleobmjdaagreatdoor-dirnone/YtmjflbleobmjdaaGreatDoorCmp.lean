/-
  Layer 17: names held against each other.
-/
import Derived.Test.YtmjflbleobmjdaaGreatDoorPlc
import Derived.Laws.Cover1
import Derived.Sort.Walk0
namespace Go.Proofs.YtmjflbleobmjdaaGreatDoor
set_option linter.unusedVariables false
set_option linter.unusedSimpArgs false
open Go.ChangeShapes Go.WideShapes Go.ChangeAt Go.RowKit

theorem isNaN_any (a : ByteArray) (w : World) : Calls Tryz.prog 67 #[.string a] w fun e w' => e = .returned (.bool false) ∧ w' = w := by
  go_enter Tryz.func67, Tryz.ntmps67
  go_wp2
  go_ret
  exact ⟨by simp, rfl⟩
/-- How two names stand. -/
def cmpS (a b : ByteArray) : Int := if lessS a b = true then -1 else if (a.toList == b.toList) = true then 0 else 1
theorem compare_any (a b : ByteArray) (w : World) : Calls Tryz.prog 38 #[.string a, .string b] w fun e w' => e = .returned (.int .i64 (cmpS a b)) ∧ w' = w := by
  unfold cmpS lessS
  cases h1 : Op.bytesLess a.toList b.toList <;> cases h2 : (a.toList == b.toList)
  all_goals
    go_enter Tryz.func38, Tryz.ntmps38
    go_wp2_with (go_at_call 67; refine (isNaN_any _ _).mono ?_; rintro e w1 ⟨rfl, hw⟩; obtain rfl := hw.symm)
    go_ret
    exact ⟨rfl, rfl⟩
end Go.Proofs.YtmjflbleobmjdaaGreatDoor
