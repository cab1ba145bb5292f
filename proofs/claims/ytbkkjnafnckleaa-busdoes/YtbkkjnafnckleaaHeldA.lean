/-
  Whatever is done to both.
-/
import Derived.Test.YtbkkjnafnckleaaHeldF
import Derived.Test.YtbkkjnafnckleaaHeldP
namespace Go.Proofs.Ytbkkjnafnckleaa
open Go.ChangeShapes Go.WideShapes Go.ChangeAt Go.RowKit
attribute [local go_sem ↓] loadSec_seal storeSec_seal eqlSec_seal zeroSec
attribute [local go_sem] loadSec_run storeSec_run rowAt_at rowAt_old rowAt_drew rowAt_drewN roomSec_new roomAt_old roomAt_drew roomAt_drewN putSec_new putRow_past rowSec_put size_put putRow_drew putRow_drewN alloc_drewN setCell_drewN sec_size

set_option linter.unusedVariables false

theorem held_any (w : World) (b r : Nat) (o : Opp) (X : World) (h : Same w b r X) (ho : o.Ok) : Calls Try.prog 10 #[.pointer (some ⟨b, 0, none⟩), .pointer (some ⟨r, 0, none⟩), o.val] X fun e Y => e = .returned (.bool true) ∧ Same w b r Y := by
  have hq0 := pickI_bd o.k 6 (by decide)
  have hq : pickI o.k 6 = 0 ∨ pickI o.k 6 = 1 ∨ pickI o.k 6 = 2 ∨ pickI o.k 6 = 3 ∨ pickI o.k 6 = 4 ∨ pickI o.k 6 = 5 := by omega
  rcases hq with hq | hq | hq | hq | hq | hq
  · exact held_0 w b r o X h ho hq
  · exact held_1 w b r o X h ho hq
  · exact held_2 w b r o X h ho hq
  · exact held_3 w b r o X h ho hq
  · exact held_4 w b r o X h ho hq
  · exact held_5 w b r o X h ho hq
end Go.Proofs.Ytbkkjnafnckleaa
