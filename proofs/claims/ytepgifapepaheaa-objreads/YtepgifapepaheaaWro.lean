/-
  Layer 7: rows that the writer writes: how many, and each, by a function that is handed in.
-/
import Derived.Test.YtepgifapepaheaaWz
import Derived.Test.YtepgifapepaheaaPln
import Derived.Test.YtepgifapepaheaaRtr
namespace Go.Proofs.Ytepgifapepaheaa
set_option linter.unusedVariables false
set_option linter.unusedSimpArgs false
open Go.ChangeShapes Go.WideShapes Go.ChangeAt Go.RowKit

theorem flat_len_le {α : Type} (L : α → List Int) (xs : List α) (i : Nat) (hi : i < xs.length) : ((xs.take i).map L).flatten.length + (L xs[i]).length ≤ ((xs.map L).flatten).length := by
  have h1 : xs = xs.take i ++ xs[i] :: xs.drop (i + 1) := by rw [← List.drop_eq_getElem_cons hi, List.take_append_drop]
  have h2 : ((xs.map L).flatten).length = (((xs.take i ++ xs[i] :: xs.drop (i + 1)).map L).flatten).length := by rw [← h1]
  rw [h2]
  simp only [List.map_append, List.map_cons, List.flatten_append, List.flatten_cons, List.length_append]
  omega
theorem take_next {α : Type} (L : α → List Int) (xs : List α) (i : Nat) (hi : i < xs.length) : ((xs.take (i + 1)).map L).flatten = ((xs.take i).map L).flatten ++ L xs[i] := by
  rw [List.take_succ_eq_append_getElem hi, List.map_append, List.flatten_append]; simp only [List.map_cons, List.map_nil, List.flatten_cons, List.flatten_nil, List.append_nil]
end Go.Proofs.Ytepgifapepaheaa
