/-
  DERIVED. GIVEN WITH THE SEED: THE CARDS: each row of YtendpkflckfgoaaDoorRows.lean that lists a variable, with what it lists TIED to the program's text (the seventh form; the later family's looks); each row that meets fmt, with fmt's text TOLD by the authors' own Lean function (tested against real Go, not proved from fmt's source: count such statements apart). THE CARD IS WHAT COUNTS. Prove the row's statement (the work); the ties are given (YtendpkflckfgoaaDoorTie.lean); close each card by the builder's one call (the guide's Derived/Test/ToyasCard.lean, 'card_holds'). Laid BY PROGRAM, IN A SANDBOX (cutbox-door.mjs). By AI agents, Wed Nov 11 2026. No macro, syntax, notation, axiom, sorry.
-/
import Derived.Test.YtendpkflckfgoaaDoorRows
import GoSem.ClaimSeven
namespace Go.Proofs.YtendpkflckfgoaaDoor
namespace Rows

/-- THE TIED CARD OF 'carrellaw09.TreeWithin'. -/
def treeWithinCard : Claim7 := { stood := { row := treeWithinRow, standIns := [], harness := (true, "b92180d1fcd0990b152f13230a999c5775b143f817fc9ada2f28f83ef7e54887"), looks := true }, kinds := [], alts := [], laidByText := true, laidKinds := [.data, .data], laidTests := true, laidLooks := .later }
def TreeWithinCardSaid : Prop := Claim7.holds Tryd.pinned (.plain (OpenSpec.ofChange treeWithinSpec)) treeWithinCard

/-- THE TIED CARD OF 'carrellaw09.TreeBlanks'. -/
def treeBlanksCard : Claim7 := { stood := { row := treeBlanksRow, standIns := [], harness := (true, "b92180d1fcd0990b152f13230a999c5775b143f817fc9ada2f28f83ef7e54887"), looks := true }, kinds := [], alts := [], laidByText := true, laidKinds := [.data, .data], laidTests := true, laidLooks := .later }
def TreeBlanksCardSaid : Prop := Claim7.holds Tryd.pinned (.plain (OpenSpec.ofChange treeBlanksSpec)) treeBlanksCard

/-- THE TIED CARD OF 'carrellaw09.TreeStops'. -/
def treeStopsCard : Claim7 := { stood := { row := treeStopsRow, standIns := [], harness := (true, "b92180d1fcd0990b152f13230a999c5775b143f817fc9ada2f28f83ef7e54887"), looks := true }, kinds := [], alts := [], laidByText := true, laidKinds := [.data, .data], laidTests := true, laidLooks := .later }
def TreeStopsCardSaid : Prop := Claim7.holds Tryd.pinned (.plain (OpenSpec.ofChange treeStopsSpec)) treeStopsCard

/-- THE TIED CARD OF 'carrellaw09.TreeDeep'. -/
def treeDeepCard : Claim7 := { stood := { row := treeDeepRow, standIns := [], harness := (true, "b92180d1fcd0990b152f13230a999c5775b143f817fc9ada2f28f83ef7e54887"), looks := true }, kinds := [], alts := [], laidByText := true, laidKinds := [.data, .data], laidTests := true, laidLooks := .later }
def TreeDeepCardSaid : Prop := Claim7.holds Tryd.pinned (.plain (OpenSpec.ofChange treeDeepSpec)) treeDeepCard

/-- THE SECOND FORM's CARD OF 'carrellaw09.TreeWithin'. -/
def treeWithinUptoCard : Claim7 := { stood := { row := treeWithinUptoRow, standIns := [], harness := (true, "b92180d1fcd0990b152f13230a999c5775b143f817fc9ada2f28f83ef7e54887"), looks := true }, kinds := [], alts := [], laidByText := true, laidKinds := [.data, .data], laidTests := true, laidLooks := .later }
def TreeWithinUptoCardSaid : Prop := Claim7.holds Tryd.pinned (.plain (OpenSpec.upto treeWithinSpec)) treeWithinUptoCard

/-- THE SECOND FORM's CARD OF 'carrellaw09.TreeBlanks'. -/
def treeBlanksUptoCard : Claim7 := { stood := { row := treeBlanksUptoRow, standIns := [], harness := (true, "b92180d1fcd0990b152f13230a999c5775b143f817fc9ada2f28f83ef7e54887"), looks := true }, kinds := [], alts := [], laidByText := true, laidKinds := [.data, .data], laidTests := true, laidLooks := .later }
def TreeBlanksUptoCardSaid : Prop := Claim7.holds Tryd.pinned (.plain (OpenSpec.upto treeBlanksSpec)) treeBlanksUptoCard

/-- THE SECOND FORM's CARD OF 'carrellaw09.TreeStops'. -/
def treeStopsUptoCard : Claim7 := { stood := { row := treeStopsUptoRow, standIns := [], harness := (true, "b92180d1fcd0990b152f13230a999c5775b143f817fc9ada2f28f83ef7e54887"), looks := true }, kinds := [], alts := [], laidByText := true, laidKinds := [.data, .data], laidTests := true, laidLooks := .later }
def TreeStopsUptoCardSaid : Prop := Claim7.holds Tryd.pinned (.plain (OpenSpec.upto treeStopsSpec)) treeStopsUptoCard

/-- THE SECOND FORM's CARD OF 'carrellaw09.TreeDeep'. -/
def treeDeepUptoCard : Claim7 := { stood := { row := treeDeepUptoRow, standIns := [], harness := (true, "b92180d1fcd0990b152f13230a999c5775b143f817fc9ada2f28f83ef7e54887"), looks := true }, kinds := [], alts := [], laidByText := true, laidKinds := [.data, .data], laidTests := true, laidLooks := .later }
def TreeDeepUptoCardSaid : Prop := Claim7.holds Tryd.pinned (.plain (OpenSpec.upto treeDeepSpec)) treeDeepUptoCard
end Rows
end Go.Proofs.YtendpkflckfgoaaDoor
