/-
  Layer 7: the writer's function for a procedure: where it begins, its name, whether it is exported.
-/
import Derived.Test.YtepgifapepaheaaWcl
namespace Go.Proofs.Ytepgifapepaheaa
set_option linter.unusedVariables false
set_option linter.unusedSimpArgs false
open Go.ChangeShapes Go.WideShapes Go.ChangeAt Go.RowKit

end Go.Proofs.Ytepgifapepaheaa
