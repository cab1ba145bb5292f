/-
  NARROWER THAN 'FOR EVERY INPUT', by the rows' own cells (each row's printed sentence says how): TreeBlanks: laid · TreeDeep: laid.
  DERIVED. THE GIVEN ROWS OF THIS SEAT. 2 by the template 'for every input the law returns true; each argument reads behind the call as it read before'; 0 by the template 'total and deterministic' (their statements: YtllhcjmabhempaaDoorTotals.lean).
  GIVEN WITH THE SEED: the statements are not yours to turn. If you find one false, say at which input.
  Laid BY PROGRAM, IN A SANDBOX (cutbox-rows.mjs): the forced cells as the released guide's own fill.sh prints them over the translation 0ec0b8567f41d301… (all of the seat's roots in one cut). By AI agents, Wed Nov 11 2026. No macro, syntax, notation, axiom, sorry.
-/
import Derived.Test.YtllhcjmabhempaaDoorChecked
import GoSem.Claim
import GoSem.ClaimJoined
import GoSem.ClaimMapViews
import Derived.JoinedTies
import Derived.KernelRfl
namespace Go.Proofs.YtllhcjmabhempaaDoor
/- THE CELL 'sum', in the pinned program and in every row, IS THE sha256 OF THE DUMP (.gsa) THAT YtllhcjmabhempaaDoorProg.lean LOADS. Nothing in Lean hashes anything: it is a label: what it is worth is what the hold of that sum in a sandbox is worth. -/
noncomputable def Tryd.pinned : Pinned := { name := "ytllhcjmabhempaadoor", sum := "0ec0b8567f41d301c89d2655f00059cbd59d057d0c6b7ef38a281b5dc8aa11ea", checked := Tryd.checked }
namespace Rows
def none {H : Type} : Left H := { results := [], args := [] }

/- WHAT THE LISTED PACKAGE-LEVEL VARIABLES READ AS WHEN THE CALL BEGINS. Each datum BY PROGRAM (the guide's laid-datum.mjs) off the statement by which the dump's own 'gosem.cut.vars' lays the variable. In a bare row this is a premise. The card (YtllhcjmabhempaaDoorCards.lean) ties it to the program's text. -/
def laid_carrel_scan_keywords {H : Type} : DataW H := .agg [.lit (.string [65, 82, 82, 65, 89]), .lit (.string [66, 69, 71, 73, 78]), .lit (.string [66, 89]), .lit (.string [67, 79, 78, 83, 84]), .lit (.string [68, 73, 86]), .lit (.string [68, 79]), .lit (.string [69, 76, 83, 69]), .lit (.string [69, 76, 83, 73, 70]), .lit (.string [69, 78, 68]), .lit (.string [70, 65, 76, 83, 69]), .lit (.string [70, 79, 82]), .lit (.string [73, 70]), .lit (.string [73, 77, 80, 79, 82, 84]), .lit (.string [73, 78]), .lit (.string [73, 83]), .lit (.string [77, 79, 68]), .lit (.string [77, 79, 68, 85, 76, 69]), .lit (.string [78, 73, 76]), .lit (.string [79, 70]), .lit (.string [79, 82]), .lit (.string [80, 79, 73, 78, 84, 69, 82]), .lit (.string [80, 82, 79, 67, 69, 68, 85, 82, 69]), .lit (.string [82, 69, 67, 79, 82, 68]), .lit (.string [82, 69, 80, 69, 65, 84]), .lit (.string [82, 69, 84, 85, 82, 78]), .lit (.string [84, 72, 69, 78]), .lit (.string [84, 79]), .lit (.string [84, 82, 85, 69]), .lit (.string [84, 89, 80, 69]), .lit (.string [85, 78, 84, 73, 76]), .lit (.string [86, 65, 82]), .lit (.string [87, 72, 73, 76, 69])]
def laid_carrel_scan_signs {H : Type} : DataW H := .agg [.lit (.string [46, 46]), .lit (.string [58, 61]), .lit (.string [60, 61]), .lit (.string [62, 61]), .lit (.string [43]), .lit (.string [45]), .lit (.string [42]), .lit (.string [47]), .lit (.string [126]), .lit (.string [38]), .lit (.string [46]), .lit (.string [44]), .lit (.string [59]), .lit (.string [124]), .lit (.string [40]), .lit (.string [41]), .lit (.string [91]), .lit (.string [93]), .lit (.string [123]), .lit (.string [125]), .lit (.string [58]), .lit (.string [94]), .lit (.string [61]), .lit (.string [35]), .lit (.string [60]), .lit (.string [62])]

/-- 'carrellaw09.TreeBlanks': WHATEVER THE INPUT: true; the input reads as it did. -/
def treeBlanksSpec : ChangeSpec := { name := "treeBlanks", fn := fun _ => fun
  | [d1, d2] => { results := [.lit (.bool true)], args := [d1, d2] }
  | _ => none }
def treeBlanksRow : OpenClaim := { program := "ytllhcjmabhempaadoor", sum := "0ec0b8567f41d301c89d2655f00059cbd59d057d0c6b7ef38a281b5dc8aa11ea", func := "carrel/carrellaw09.TreeBlanks", spec := "treeBlanks", unfollowed := true, recurses := true, named := ["carrel/scan.keywords", "carrel/scan.signs"], apart := false, laid := [("carrel/scan.keywords", laid_carrel_scan_keywords), ("carrel/scan.signs", laid_carrel_scan_signs)] }
def TreeBlanksSaid : Prop := treeBlanksRow.holds Tryd.pinned (OpenSpec.ofChange treeBlanksSpec)

/-- ITS FALSE NEIGHBOUR: 'it returns false'. Refute it at one input. -/
def treeBlanksWrong : ChangeSpec := { name := "treeBlanks", fn := fun _ => fun
  | [d1, d2] => { results := [.lit (.bool false)], args := [d1, d2] }
  | _ => none }
def TreeBlanksWrongFalsely : Prop := treeBlanksRow.holds Tryd.pinned (OpenSpec.ofChange treeBlanksWrong)

/-- 'carrellaw09.TreeDeep': WHATEVER THE INPUT: true; the input reads as it did. -/
def treeDeepSpec : ChangeSpec := { name := "treeDeep", fn := fun _ => fun
  | [d1, d2] => { results := [.lit (.bool true)], args := [d1, d2] }
  | _ => none }
def treeDeepRow : OpenClaim := { program := "ytllhcjmabhempaadoor", sum := "0ec0b8567f41d301c89d2655f00059cbd59d057d0c6b7ef38a281b5dc8aa11ea", func := "carrel/carrellaw09.TreeDeep", spec := "treeDeep", unfollowed := true, recurses := true, named := ["carrel/scan.keywords", "carrel/scan.signs"], apart := false, laid := [("carrel/scan.keywords", laid_carrel_scan_keywords), ("carrel/scan.signs", laid_carrel_scan_signs)] }
def TreeDeepSaid : Prop := treeDeepRow.holds Tryd.pinned (OpenSpec.ofChange treeDeepSpec)

/-- ITS FALSE NEIGHBOUR: 'it returns false'. Refute it at one input. -/
def treeDeepWrong : ChangeSpec := { name := "treeDeep", fn := fun _ => fun
  | [d1, d2] => { results := [.lit (.bool false)], args := [d1, d2] }
  | _ => none }
def TreeDeepWrongFalsely : Prop := treeDeepRow.holds Tryd.pinned (OpenSpec.ofChange treeDeepWrong)

/- THE SECOND FORM. 'bulk': how many values and letters a reading holds, each counted each time it is reached (what is shared counts as often as it is met; a slice's spare places count too). A statement '..UptoSaid' is the law's where the arguments, and the package variables that the reading takes, are together of bulk at most 1048576: NARROWER than '..Said'. Prove '..Said' where nothing that the law and all that it calls make is longer than what came in: it says more and counts as full. Else prove '..UptoSaid'. A law counts once. -/
mutual
def uptoBulk {H : Type} : DataW H → Nat
  | .lit (.string bytes) => bytes.length + 1
  | .lit _ => 1
  | .nil => 1
  | .ptr d => uptoBulk d + 1
  | .slice elems spare => uptoBulkAll elems + uptoBulkAll spare + 1
  | .agg parts => uptoBulkAll parts + 1
  | .iface _ d => uptoBulk d + 1
  | .map entries => uptoBulkEntries entries + 1
  | .held _ => 1
def uptoBulkAll {H : Type} : List (DataW H) → Nat
  | [] => 0
  | d :: r => uptoBulk d + uptoBulkAll r
def uptoBulkEntries {H : Type} : List (Lit × DataW H) → Nat
  | [] => 0
  | x :: r => uptoBulkEntry x + uptoBulkEntries r
def uptoBulkEntry {H : Type} : Lit × DataW H → Nat
  | (.string bytes, d) => bytes.length + uptoBulk d + 1
  | (_, d) => uptoBulk d + 1
 end
def uptoSmall : (H : Type) → List (DataW H) → Bool := fun _ ds => decide (uptoBulkAll ds ≤ 1048576)
def OpenSpec.upto (s : _root_.Go.ChangeSpec) : _root_.Go.OpenSpec := { _root_.Go.OpenSpec.ofChange s with cond := some uptoSmall }

/-- 'carrellaw09.TreeBlanks', WHERE WHAT IT READS IS OF BULK AT MOST 1048576: true; the input reads as it did. -/
def treeBlanksUptoRow : OpenClaim := { program := "ytllhcjmabhempaadoor", sum := "0ec0b8567f41d301c89d2655f00059cbd59d057d0c6b7ef38a281b5dc8aa11ea", func := "carrel/carrellaw09.TreeBlanks", spec := "treeBlanks", unfollowed := true, recurses := true, named := ["carrel/scan.keywords", "carrel/scan.signs"], apart := false, laid := [("carrel/scan.keywords", laid_carrel_scan_keywords), ("carrel/scan.signs", laid_carrel_scan_signs)], narrowed := true }
def TreeBlanksUptoSaid : Prop := treeBlanksUptoRow.holds Tryd.pinned (OpenSpec.upto treeBlanksSpec)

/-- 'carrellaw09.TreeDeep', WHERE WHAT IT READS IS OF BULK AT MOST 1048576: true; the input reads as it did. -/
def treeDeepUptoRow : OpenClaim := { program := "ytllhcjmabhempaadoor", sum := "0ec0b8567f41d301c89d2655f00059cbd59d057d0c6b7ef38a281b5dc8aa11ea", func := "carrel/carrellaw09.TreeDeep", spec := "treeDeep", unfollowed := true, recurses := true, named := ["carrel/scan.keywords", "carrel/scan.signs"], apart := false, laid := [("carrel/scan.keywords", laid_carrel_scan_keywords), ("carrel/scan.signs", laid_carrel_scan_signs)], narrowed := true }
def TreeDeepUptoSaid : Prop := treeDeepUptoRow.holds Tryd.pinned (OpenSpec.upto treeDeepSpec)

end Rows
end Go.Proofs.YtllhcjmabhempaaDoor
