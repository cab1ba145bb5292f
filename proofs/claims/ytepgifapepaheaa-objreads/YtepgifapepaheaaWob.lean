/-
  Layer 7: the writer writes an object, and its sum.
-/
import Derived.Test.YtepgifapepaheaaWpr
namespace Go.Proofs.Ytepgifapepaheaa
set_option linter.unusedVariables false
set_option linter.unusedSimpArgs false
open Go.ChangeShapes Go.WideShapes Go.ChangeAt Go.RowKit
attribute [local go_sem] Oc.at0 Oc.at1 Oc.at2 Oc.at3 Oc.at4 Oc.at5 Oc.at6 Oc.at7 Oc.at8 Oc.at9 Oc.at10 Oc.at11 Oc.at12

def markL : List Int := [67, 82, 79, 49]
theorem mark_sL : sL ⟨#[67, 82, 79, 49]⟩ = markL := by decide
/-- An object's bytes. -/
def objL (o : Ob) : List Int := markL ++ bodyL o ++ wdL (fnv (fun i => (markL ++ bodyL o).getD i 0) (markL ++ bodyL o).length)
theorem prcs_at (o : Ob) (i : Nat) (hi : i < (prcsOf o).length) : (prcsOf o)[i] = (o.procs.getD i 0, o.names.getD i ⟨#[]⟩, o.exps.getD i false) := by simp [prcsOf]
section
variable {v X0 : World} {p B q ob nb : Nat} {c : Oc} {o : Ob}
end
end Go.Proofs.Ytepgifapepaheaa
