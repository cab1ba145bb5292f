/-
  NARROWER THAN 'FOR EVERY INPUT', by the rows' own cells (each row's printed sentence says how): ScanReads: laid · ScanNames: laid · ScanNumbers: laid · ScanAgain: laid · ScanAhead: laid.
  DERIVED. THE GIVEN ROWS OF THIS SEAT. 5 by the template 'for every input the law returns true; each argument reads behind the call as it read before'; 0 by the template 'total and deterministic' (their statements: YtphogfomlmjeiaaDoorTotals.lean).
  GIVEN WITH THE SEED: the statements are not yours to turn. If you find one false, say at which input.
  Laid BY PROGRAM, IN A SANDBOX (cutbox-rows.mjs): the forced cells as the released guide's own fill.sh prints them over the translation 989a5f8d0a7fffc8… (all of the seat's roots in one cut). By AI agents, Wed Nov 11 2026. No macro, syntax, notation, axiom, sorry.
-/
import Derived.Test.YtphogfomlmjeiaaDoorChecked
import GoSem.Claim
import GoSem.ClaimJoined
import GoSem.ClaimMapViews
import Derived.JoinedTies
import Derived.KernelRfl
namespace Go.Proofs.YtphogfomlmjeiaaDoor
/- THE CELL 'sum', in the pinned program and in every row, IS THE sha256 OF THE DUMP (.gsa) THAT YtphogfomlmjeiaaDoorProg.lean LOADS. Nothing in Lean hashes anything: it is a label: what it is worth is what the hold of that sum in a sandbox is worth. -/
noncomputable def Tryd.pinned : Pinned := { name := "ytphogfomlmjeiaadoor", sum := "989a5f8d0a7fffc8fb3704e1a3d408c98dab448d1950ea28d38bc324f0671589", checked := Tryd.checked }
namespace Rows
def none {H : Type} : Left H := { results := [], args := [] }

/- WHAT THE LISTED PACKAGE-LEVEL VARIABLES READ AS WHEN THE CALL BEGINS. Each datum BY PROGRAM (the guide's laid-datum.mjs) off the statement by which the dump's own 'gosem.cut.vars' lays the variable. In a bare row this is a premise. The card (YtphogfomlmjeiaaDoorCards.lean) ties it to the program's text. -/
def laid_carrel_scan_keywords {H : Type} : DataW H := .agg [.lit (.string [65, 82, 82, 65, 89]), .lit (.string [66, 69, 71, 73, 78]), .lit (.string [66, 89]), .lit (.string [67, 79, 78, 83, 84]), .lit (.string [68, 73, 86]), .lit (.string [68, 79]), .lit (.string [69, 76, 83, 69]), .lit (.string [69, 76, 83, 73, 70]), .lit (.string [69, 78, 68]), .lit (.string [70, 65, 76, 83, 69]), .lit (.string [70, 79, 82]), .lit (.string [73, 70]), .lit (.string [73, 77, 80, 79, 82, 84]), .lit (.string [73, 78]), .lit (.string [73, 83]), .lit (.string [77, 79, 68]), .lit (.string [77, 79, 68, 85, 76, 69]), .lit (.string [78, 73, 76]), .lit (.string [79, 70]), .lit (.string [79, 82]), .lit (.string [80, 79, 73, 78, 84, 69, 82]), .lit (.string [80, 82, 79, 67, 69, 68, 85, 82, 69]), .lit (.string [82, 69, 67, 79, 82, 68]), .lit (.string [82, 69, 80, 69, 65, 84]), .lit (.string [82, 69, 84, 85, 82, 78]), .lit (.string [84, 72, 69, 78]), .lit (.string [84, 79]), .lit (.string [84, 82, 85, 69]), .lit (.string [84, 89, 80, 69]), .lit (.string [85, 78, 84, 73, 76]), .lit (.string [86, 65, 82]), .lit (.string [87, 72, 73, 76, 69])]
def laid_carrel_scan_signs {H : Type} : DataW H := .agg [.lit (.string [46, 46]), .lit (.string [58, 61]), .lit (.string [60, 61]), .lit (.string [62, 61]), .lit (.string [43]), .lit (.string [45]), .lit (.string [42]), .lit (.string [47]), .lit (.string [126]), .lit (.string [38]), .lit (.string [46]), .lit (.string [44]), .lit (.string [59]), .lit (.string [124]), .lit (.string [40]), .lit (.string [41]), .lit (.string [91]), .lit (.string [93]), .lit (.string [123]), .lit (.string [125]), .lit (.string [58]), .lit (.string [94]), .lit (.string [61]), .lit (.string [35]), .lit (.string [60]), .lit (.string [62])]

/-- 'carrellaw08.ScanReads': WHATEVER THE INPUT: true; the input reads as it did. -/
def scanReadsSpec : ChangeSpec := { name := "scanReads", fn := fun _ => fun
  | [d] => { results := [.lit (.bool true)], args := [d] }
  | _ => none }
def scanReadsRow : OpenClaim := { program := "ytphogfomlmjeiaadoor", sum := "989a5f8d0a7fffc8fb3704e1a3d408c98dab448d1950ea28d38bc324f0671589", func := "carrel/carrellaw08.ScanReads", spec := "scanReads", named := ["carrel/scan.keywords", "carrel/scan.signs"], apart := false, laid := [("carrel/scan.keywords", laid_carrel_scan_keywords), ("carrel/scan.signs", laid_carrel_scan_signs)] }
def ScanReadsSaid : Prop := scanReadsRow.holds Tryd.pinned (OpenSpec.ofChange scanReadsSpec)

/-- ITS FALSE NEIGHBOUR: 'it returns false'. Refute it at one input. -/
def scanReadsWrong : ChangeSpec := { name := "scanReads", fn := fun _ => fun
  | [d] => { results := [.lit (.bool false)], args := [d] }
  | _ => none }
def ScanReadsWrongFalsely : Prop := scanReadsRow.holds Tryd.pinned (OpenSpec.ofChange scanReadsWrong)

/-- 'carrellaw08.ScanNames': WHATEVER THE INPUT: true; the input reads as it did. -/
def scanNamesSpec : ChangeSpec := { name := "scanNames", fn := fun _ => fun
  | [d] => { results := [.lit (.bool true)], args := [d] }
  | _ => none }
def scanNamesRow : OpenClaim := { program := "ytphogfomlmjeiaadoor", sum := "989a5f8d0a7fffc8fb3704e1a3d408c98dab448d1950ea28d38bc324f0671589", func := "carrel/carrellaw08.ScanNames", spec := "scanNames", named := ["carrel/scan.keywords"], apart := false, laid := [("carrel/scan.keywords", laid_carrel_scan_keywords)] }
def ScanNamesSaid : Prop := scanNamesRow.holds Tryd.pinned (OpenSpec.ofChange scanNamesSpec)

/-- ITS FALSE NEIGHBOUR: 'it returns false'. Refute it at one input. -/
def scanNamesWrong : ChangeSpec := { name := "scanNames", fn := fun _ => fun
  | [d] => { results := [.lit (.bool false)], args := [d] }
  | _ => none }
def ScanNamesWrongFalsely : Prop := scanNamesRow.holds Tryd.pinned (OpenSpec.ofChange scanNamesWrong)

/-- 'carrellaw08.ScanNumbers': WHATEVER THE INPUT: true; the input reads as it did. -/
def scanNumbersSpec : ChangeSpec := { name := "scanNumbers", fn := fun _ => fun
  | [d1, d2, d3] => { results := [.lit (.bool true)], args := [d1, d2, d3] }
  | _ => none }
def scanNumbersRow : OpenClaim := { program := "ytphogfomlmjeiaadoor", sum := "989a5f8d0a7fffc8fb3704e1a3d408c98dab448d1950ea28d38bc324f0671589", func := "carrel/carrellaw08.ScanNumbers", spec := "scanNumbers", named := ["carrel/scan.keywords", "carrel/scan.signs"], apart := false, laid := [("carrel/scan.keywords", laid_carrel_scan_keywords), ("carrel/scan.signs", laid_carrel_scan_signs)] }
def ScanNumbersSaid : Prop := scanNumbersRow.holds Tryd.pinned (OpenSpec.ofChange scanNumbersSpec)

/-- ITS FALSE NEIGHBOUR: 'it returns false'. Refute it at one input. -/
def scanNumbersWrong : ChangeSpec := { name := "scanNumbers", fn := fun _ => fun
  | [d1, d2, d3] => { results := [.lit (.bool false)], args := [d1, d2, d3] }
  | _ => none }
def ScanNumbersWrongFalsely : Prop := scanNumbersRow.holds Tryd.pinned (OpenSpec.ofChange scanNumbersWrong)

/-- 'carrellaw08.ScanAgain': WHATEVER THE INPUT: true; the input reads as it did. -/
def scanAgainSpec : ChangeSpec := { name := "scanAgain", fn := fun _ => fun
  | [d1, d2] => { results := [.lit (.bool true)], args := [d1, d2] }
  | _ => none }
def scanAgainRow : OpenClaim := { program := "ytphogfomlmjeiaadoor", sum := "989a5f8d0a7fffc8fb3704e1a3d408c98dab448d1950ea28d38bc324f0671589", func := "carrel/carrellaw08.ScanAgain", spec := "scanAgain", named := ["carrel/scan.keywords", "carrel/scan.signs"], apart := false, laid := [("carrel/scan.keywords", laid_carrel_scan_keywords), ("carrel/scan.signs", laid_carrel_scan_signs)] }
def ScanAgainSaid : Prop := scanAgainRow.holds Tryd.pinned (OpenSpec.ofChange scanAgainSpec)

/-- ITS FALSE NEIGHBOUR: 'it returns false'. Refute it at one input. -/
def scanAgainWrong : ChangeSpec := { name := "scanAgain", fn := fun _ => fun
  | [d1, d2] => { results := [.lit (.bool false)], args := [d1, d2] }
  | _ => none }
def ScanAgainWrongFalsely : Prop := scanAgainRow.holds Tryd.pinned (OpenSpec.ofChange scanAgainWrong)

/-- 'carrellaw08.ScanAhead': WHATEVER THE INPUT: true; the input reads as it did. -/
def scanAheadSpec : ChangeSpec := { name := "scanAhead", fn := fun _ => fun
  | [d] => { results := [.lit (.bool true)], args := [d] }
  | _ => none }
def scanAheadRow : OpenClaim := { program := "ytphogfomlmjeiaadoor", sum := "989a5f8d0a7fffc8fb3704e1a3d408c98dab448d1950ea28d38bc324f0671589", func := "carrel/carrellaw08.ScanAhead", spec := "scanAhead", named := ["carrel/scan.keywords", "carrel/scan.signs"], apart := false, laid := [("carrel/scan.keywords", laid_carrel_scan_keywords), ("carrel/scan.signs", laid_carrel_scan_signs)] }
def ScanAheadSaid : Prop := scanAheadRow.holds Tryd.pinned (OpenSpec.ofChange scanAheadSpec)

/-- ITS FALSE NEIGHBOUR: 'it returns false'. Refute it at one input. -/
def scanAheadWrong : ChangeSpec := { name := "scanAhead", fn := fun _ => fun
  | [d] => { results := [.lit (.bool false)], args := [d] }
  | _ => none }
def ScanAheadWrongFalsely : Prop := scanAheadRow.holds Tryd.pinned (OpenSpec.ofChange scanAheadWrong)

/- THE SECOND FORM. 'bulk': how many values and letters a reading holds, each counted each time it is reached (what is shared counts as often as it is met; a slice's spare places count too). A statement '..UptoSaid' is the law's where the arguments, and the package variables that the reading takes, are together of bulk at most 1048576: NARROWER than '..Said'. Prove '..Said' where nothing that the law and all that it calls make is longer than what came in: it says more and counts as full. Else prove '..UptoSaid'. A law counts once. -/
mutual
def uptoBulk {H : Type} : DataW H → Nat
  | .lit (.string bytes) => bytes.length + 1
  | .lit _ => 1
  | .nil => 1
  | .ptr d => uptoBulk d + 1
  | .slice elems spare => uptoBulkAll elems + uptoBulkAll spare + 1
  | .agg parts => uptoBulkAll parts + 1
  | .iface _ d => uptoBulk d + 1
  | .map entries => uptoBulkEntries entries + 1
  | .held _ => 1
def uptoBulkAll {H : Type} : List (DataW H) → Nat
  | [] => 0
  | d :: r => uptoBulk d + uptoBulkAll r
def uptoBulkEntries {H : Type} : List (Lit × DataW H) → Nat
  | [] => 0
  | x :: r => uptoBulkEntry x + uptoBulkEntries r
def uptoBulkEntry {H : Type} : Lit × DataW H → Nat
  | (.string bytes, d) => bytes.length + uptoBulk d + 1
  | (_, d) => uptoBulk d + 1
 end
def uptoSmall : (H : Type) → List (DataW H) → Bool := fun _ ds => decide (uptoBulkAll ds ≤ 1048576)
def OpenSpec.upto (s : _root_.Go.ChangeSpec) : _root_.Go.OpenSpec := { _root_.Go.OpenSpec.ofChange s with cond := some uptoSmall }

/-- 'carrellaw08.ScanReads', WHERE WHAT IT READS IS OF BULK AT MOST 1048576: true; the input reads as it did. -/
def scanReadsUptoRow : OpenClaim := { program := "ytphogfomlmjeiaadoor", sum := "989a5f8d0a7fffc8fb3704e1a3d408c98dab448d1950ea28d38bc324f0671589", func := "carrel/carrellaw08.ScanReads", spec := "scanReads", named := ["carrel/scan.keywords", "carrel/scan.signs"], apart := false, laid := [("carrel/scan.keywords", laid_carrel_scan_keywords), ("carrel/scan.signs", laid_carrel_scan_signs)], narrowed := true }
def ScanReadsUptoSaid : Prop := scanReadsUptoRow.holds Tryd.pinned (OpenSpec.upto scanReadsSpec)

/-- 'carrellaw08.ScanNames', WHERE WHAT IT READS IS OF BULK AT MOST 1048576: true; the input reads as it did. -/
def scanNamesUptoRow : OpenClaim := { program := "ytphogfomlmjeiaadoor", sum := "989a5f8d0a7fffc8fb3704e1a3d408c98dab448d1950ea28d38bc324f0671589", func := "carrel/carrellaw08.ScanNames", spec := "scanNames", named := ["carrel/scan.keywords"], apart := false, laid := [("carrel/scan.keywords", laid_carrel_scan_keywords)], narrowed := true }
def ScanNamesUptoSaid : Prop := scanNamesUptoRow.holds Tryd.pinned (OpenSpec.upto scanNamesSpec)

/-- 'carrellaw08.ScanNumbers', WHERE WHAT IT READS IS OF BULK AT MOST 1048576: true; the input reads as it did. -/
def scanNumbersUptoRow : OpenClaim := { program := "ytphogfomlmjeiaadoor", sum := "989a5f8d0a7fffc8fb3704e1a3d408c98dab448d1950ea28d38bc324f0671589", func := "carrel/carrellaw08.ScanNumbers", spec := "scanNumbers", named := ["carrel/scan.keywords", "carrel/scan.signs"], apart := false, laid := [("carrel/scan.keywords", laid_carrel_scan_keywords), ("carrel/scan.signs", laid_carrel_scan_signs)], narrowed := true }
def ScanNumbersUptoSaid : Prop := scanNumbersUptoRow.holds Tryd.pinned (OpenSpec.upto scanNumbersSpec)

/-- 'carrellaw08.ScanAgain', WHERE WHAT IT READS IS OF BULK AT MOST 1048576: true; the input reads as it did. -/
def scanAgainUptoRow : OpenClaim := { program := "ytphogfomlmjeiaadoor", sum := "989a5f8d0a7fffc8fb3704e1a3d408c98dab448d1950ea28d38bc324f0671589", func := "carrel/carrellaw08.ScanAgain", spec := "scanAgain", named := ["carrel/scan.keywords", "carrel/scan.signs"], apart := false, laid := [("carrel/scan.keywords", laid_carrel_scan_keywords), ("carrel/scan.signs", laid_carrel_scan_signs)], narrowed := true }
def ScanAgainUptoSaid : Prop := scanAgainUptoRow.holds Tryd.pinned (OpenSpec.upto scanAgainSpec)

/-- 'carrellaw08.ScanAhead', WHERE WHAT IT READS IS OF BULK AT MOST 1048576: true; the input reads as it did. -/
def scanAheadUptoRow : OpenClaim := { program := "ytphogfomlmjeiaadoor", sum := "989a5f8d0a7fffc8fb3704e1a3d408c98dab448d1950ea28d38bc324f0671589", func := "carrel/carrellaw08.ScanAhead", spec := "scanAhead", named := ["carrel/scan.keywords", "carrel/scan.signs"], apart := false, laid := [("carrel/scan.keywords", laid_carrel_scan_keywords), ("carrel/scan.signs", laid_carrel_scan_signs)], narrowed := true }
def ScanAheadUptoSaid : Prop := scanAheadUptoRow.holds Tryd.pinned (OpenSpec.upto scanAheadSpec)

end Rows
end Go.Proofs.YtphogfomlmjeiaaDoor
