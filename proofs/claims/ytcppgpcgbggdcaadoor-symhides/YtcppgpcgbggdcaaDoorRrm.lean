/-
  Layer 7: rows that the reader reads, of imports and fixes.
-/
import Derived.Test.YtcppgpcgbggdcaaDoorRrw
import Derived.Test.YtcppgpcgbggdcaaDoorRcl
namespace Go.Proofs.YtcppgpcgbggdcaaDoor
set_option linter.unusedVariables false
set_option linter.unusedSimpArgs false
open Go.ChangeShapes Go.WideShapes Go.ChangeAt Go.RowKit

/-- The cells of a row of things of several. -/
def flat {α : Type} (enc : α → Array Value) (l : List α) : List Value := (l.map fun x => (enc x).toList).flatten
theorem flat_snoc {α : Type} (enc : α → Array Value) (l : List α) (x : α) : flat enc (l ++ [x]) = flat enc l ++ (enc x).toList := by simp [flat]
theorem cells_new {X : World} (cs : Array Value) (t : TypeId) {g : Nat} (hg : g = X.heap.size) : ∀ j u, cs.toList[j]? = some u → (X.alloc (.cells cs t)).cell? ((⟨g, 0, none⟩ : Addr).add j) = some u := by
  intro j u h
  subst hg
  rw [show (⟨X.heap.size, 0, none⟩ : Addr).add j = ⟨X.heap.size, j, none⟩ by (simp [Addr.add]; omega), blk_cell (blk_new X (.cells cs t)) j]
  simpa using h
theorem info_imp : (Tryd.prog.info? 169).map (fun i => (i.zero, i.size, i.bytes)) = some (some (.agg #[.string ⟨#[]⟩, .int .u32 0]), 2, 24) := by kernel_rfl
end Go.Proofs.YtcppgpcgbggdcaaDoor
