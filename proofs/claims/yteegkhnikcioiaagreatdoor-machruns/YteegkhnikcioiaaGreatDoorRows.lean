/-
  NARROWER THAN 'FOR EVERY INPUT', by the rows' own cells (each row's printed sentence says how): MachRuns: laid · MachPieces: laid · MachEnds: laid · MachVector: laid · MachCuts: laid · MachNone: laid.
  DERIVED. THE GIVEN ROWS OF THIS SEAT. 6 by the template 'for every input the law returns true; each argument reads behind the call as it read before'; 0 by the template 'total and deterministic' (their statements: YteegkhnikcioiaaGreatDoorTotals.lean).
  GIVEN WITH THE SEED: the statements are not yours to turn. If you find one false, say at which input.
  Laid BY PROGRAM, IN A SANDBOX (cutbox-rows.mjs): the forced cells as the released guide's own fill.sh prints them over the translation a3ae52ee80d06b08… (all of the seat's roots in one cut). By AI agents, Wed Nov 11 2026. No macro, syntax, notation, axiom, sorry.
-/
import Derived.Test.YteegkhnikcioiaaGreatDoorChecked
import GoSem.Claim
import GoSem.ClaimJoined
import GoSem.ClaimMapViews
import Derived.JoinedTies
import Derived.KernelRfl
namespace Go.Proofs.YteegkhnikcioiaaGreatDoor
/- THE CELL 'sum', in the pinned program and in every row, IS THE sha256 OF THE DUMP (.gsa) THAT YteegkhnikcioiaaGreatDoorProg.lean LOADS. Nothing in Lean hashes anything: it is a label: what it is worth is what the hold of that sum in a sandbox is worth. -/
noncomputable def Tryz.pinned : Pinned := { name := "yteegkhnikcioiaagreatdoor", sum := "a3ae52ee80d06b08c3ca5e9610fdf98b6ad74e6c60e74ce044fc518f31c21421", checked := Tryz.checked }
namespace Rows
def none {H : Type} : Left H := { results := [], args := [] }

/- WHAT THE LISTED PACKAGE-LEVEL VARIABLES READ AS WHEN THE CALL BEGINS. Each datum BY PROGRAM (the guide's laid-datum.mjs) off the statement by which the dump's own 'gosem.cut.vars' lays the variable. In a bare row this is a premise. The card (YteegkhnikcioiaaGreatDoorCards.lean) ties it to the program's text. -/
def laid_carrel_cpu_ways {H : Type} : DataW H := .agg [.agg [.lit (.int .i64 13), .lit (.int .i64 7)], .agg [.lit (.int .i64 1), .lit (.int .i64 3)], .agg [.lit (.int .i64 1), .lit (.int .i64 3)], .agg [.lit (.int .i64 1), .lit (.int .i64 3)], .agg [.lit (.int .i64 1), .lit (.int .i64 3)], .agg [.lit (.int .i64 1), .lit (.int .i64 3)], .agg [.lit (.int .i64 1), .lit (.int .i64 3)], .agg [.lit (.int .i64 1), .lit (.int .i64 3)], .agg [.lit (.int .i64 5), .lit (.int .i64 15)], .agg [.lit (.int .i64 5), .lit (.int .i64 15)], .agg [.lit (.int .i64 5), .lit (.int .i64 15)], .agg [.lit (.int .i64 1), .lit (.int .i64 3)], .agg [.lit (.int .i64 0), .lit (.int .i64 0)], .agg [.lit (.int .i64 0), .lit (.int .i64 0)], .agg [.lit (.int .i64 0), .lit (.int .i64 0)], .agg [.lit (.int .i64 0), .lit (.int .i64 1)]]

/-- 'carrellaw05.MachRuns': WHATEVER THE INPUT: true; the input reads as it did. -/
def machRunsSpec : ChangeSpec := { name := "machRuns", fn := fun _ => fun
  | [d1, d2] => { results := [.lit (.bool true)], args := [d1, d2] }
  | _ => none }
def machRunsRow : OpenClaim := { program := "yteegkhnikcioiaagreatdoor", sum := "a3ae52ee80d06b08c3ca5e9610fdf98b6ad74e6c60e74ce044fc518f31c21421", func := "carrel/carrellaw05.MachRuns", spec := "machRuns", unfollowed := true, recurses := true, named := ["carrel/cpu.ways"], apart := false, laid := [("carrel/cpu.ways", laid_carrel_cpu_ways)] }
def MachRunsSaid : Prop := machRunsRow.holds Tryz.pinned (OpenSpec.ofChange machRunsSpec)

/-- ITS FALSE NEIGHBOUR: 'it returns false'. Refute it at one input. -/
def machRunsWrong : ChangeSpec := { name := "machRuns", fn := fun _ => fun
  | [d1, d2] => { results := [.lit (.bool false)], args := [d1, d2] }
  | _ => none }
def MachRunsWrongFalsely : Prop := machRunsRow.holds Tryz.pinned (OpenSpec.ofChange machRunsWrong)

/-- 'carrellaw05.MachPieces': WHATEVER THE INPUT: true; the input reads as it did. -/
def machPiecesSpec : ChangeSpec := { name := "machPieces", fn := fun _ => fun
  | [d1, d2, d3] => { results := [.lit (.bool true)], args := [d1, d2, d3] }
  | _ => none }
def machPiecesRow : OpenClaim := { program := "yteegkhnikcioiaagreatdoor", sum := "a3ae52ee80d06b08c3ca5e9610fdf98b6ad74e6c60e74ce044fc518f31c21421", func := "carrel/carrellaw05.MachPieces", spec := "machPieces", unfollowed := true, recurses := true, named := ["carrel/cpu.ways"], apart := false, laid := [("carrel/cpu.ways", laid_carrel_cpu_ways)] }
def MachPiecesSaid : Prop := machPiecesRow.holds Tryz.pinned (OpenSpec.ofChange machPiecesSpec)

/-- ITS FALSE NEIGHBOUR: 'it returns false'. Refute it at one input. -/
def machPiecesWrong : ChangeSpec := { name := "machPieces", fn := fun _ => fun
  | [d1, d2, d3] => { results := [.lit (.bool false)], args := [d1, d2, d3] }
  | _ => none }
def MachPiecesWrongFalsely : Prop := machPiecesRow.holds Tryz.pinned (OpenSpec.ofChange machPiecesWrong)

/-- 'carrellaw05.MachEnds': WHATEVER THE INPUT: true; the input reads as it did. -/
def machEndsSpec : ChangeSpec := { name := "machEnds", fn := fun _ => fun
  | [d1, d2, d3] => { results := [.lit (.bool true)], args := [d1, d2, d3] }
  | _ => none }
def machEndsRow : OpenClaim := { program := "yteegkhnikcioiaagreatdoor", sum := "a3ae52ee80d06b08c3ca5e9610fdf98b6ad74e6c60e74ce044fc518f31c21421", func := "carrel/carrellaw05.MachEnds", spec := "machEnds", unfollowed := true, recurses := true, named := ["carrel/cpu.ways"], apart := false, laid := [("carrel/cpu.ways", laid_carrel_cpu_ways)] }
def MachEndsSaid : Prop := machEndsRow.holds Tryz.pinned (OpenSpec.ofChange machEndsSpec)

/-- ITS FALSE NEIGHBOUR: 'it returns false'. Refute it at one input. -/
def machEndsWrong : ChangeSpec := { name := "machEnds", fn := fun _ => fun
  | [d1, d2, d3] => { results := [.lit (.bool false)], args := [d1, d2, d3] }
  | _ => none }
def MachEndsWrongFalsely : Prop := machEndsRow.holds Tryz.pinned (OpenSpec.ofChange machEndsWrong)

/-- 'carrellaw05.MachVector': WHATEVER THE INPUT: true; the input reads as it did. -/
def machVectorSpec : ChangeSpec := { name := "machVector", fn := fun _ => fun
  | [d1, d2, d3] => { results := [.lit (.bool true)], args := [d1, d2, d3] }
  | _ => none }
def machVectorRow : OpenClaim := { program := "yteegkhnikcioiaagreatdoor", sum := "a3ae52ee80d06b08c3ca5e9610fdf98b6ad74e6c60e74ce044fc518f31c21421", func := "carrel/carrellaw05.MachVector", spec := "machVector", unfollowed := true, recurses := true, named := ["carrel/cpu.ways"], apart := false, laid := [("carrel/cpu.ways", laid_carrel_cpu_ways)] }
def MachVectorSaid : Prop := machVectorRow.holds Tryz.pinned (OpenSpec.ofChange machVectorSpec)

/-- ITS FALSE NEIGHBOUR: 'it returns false'. Refute it at one input. -/
def machVectorWrong : ChangeSpec := { name := "machVector", fn := fun _ => fun
  | [d1, d2, d3] => { results := [.lit (.bool false)], args := [d1, d2, d3] }
  | _ => none }
def MachVectorWrongFalsely : Prop := machVectorRow.holds Tryz.pinned (OpenSpec.ofChange machVectorWrong)

/-- 'carrellaw05.MachCuts': WHATEVER THE INPUT: true; the input reads as it did. -/
def machCutsSpec : ChangeSpec := { name := "machCuts", fn := fun _ => fun
  | [d1, d2, d3] => { results := [.lit (.bool true)], args := [d1, d2, d3] }
  | _ => none }
def machCutsRow : OpenClaim := { program := "yteegkhnikcioiaagreatdoor", sum := "a3ae52ee80d06b08c3ca5e9610fdf98b6ad74e6c60e74ce044fc518f31c21421", func := "carrel/carrellaw05.MachCuts", spec := "machCuts", unfollowed := true, recurses := true, named := ["carrel/cpu.ways"], apart := false, laid := [("carrel/cpu.ways", laid_carrel_cpu_ways)] }
def MachCutsSaid : Prop := machCutsRow.holds Tryz.pinned (OpenSpec.ofChange machCutsSpec)

/-- ITS FALSE NEIGHBOUR: 'it returns false'. Refute it at one input. -/
def machCutsWrong : ChangeSpec := { name := "machCuts", fn := fun _ => fun
  | [d1, d2, d3] => { results := [.lit (.bool false)], args := [d1, d2, d3] }
  | _ => none }
def MachCutsWrongFalsely : Prop := machCutsRow.holds Tryz.pinned (OpenSpec.ofChange machCutsWrong)

/-- 'carrellaw05.MachNone': WHATEVER THE INPUT: true; the input reads as it did. -/
def machNoneSpec : ChangeSpec := { name := "machNone", fn := fun _ => fun
  | [d] => { results := [.lit (.bool true)], args := [d] }
  | _ => none }
def machNoneRow : OpenClaim := { program := "yteegkhnikcioiaagreatdoor", sum := "a3ae52ee80d06b08c3ca5e9610fdf98b6ad74e6c60e74ce044fc518f31c21421", func := "carrel/carrellaw05.MachNone", spec := "machNone", unfollowed := true, recurses := true, named := ["carrel/cpu.ways"], apart := false, laid := [("carrel/cpu.ways", laid_carrel_cpu_ways)] }
def MachNoneSaid : Prop := machNoneRow.holds Tryz.pinned (OpenSpec.ofChange machNoneSpec)

/-- ITS FALSE NEIGHBOUR: 'it returns false'. Refute it at one input. -/
def machNoneWrong : ChangeSpec := { name := "machNone", fn := fun _ => fun
  | [d] => { results := [.lit (.bool false)], args := [d] }
  | _ => none }
def MachNoneWrongFalsely : Prop := machNoneRow.holds Tryz.pinned (OpenSpec.ofChange machNoneWrong)

/- THE SECOND FORM. 'bulk': how many values and letters a reading holds, each counted each time it is reached (what is shared counts as often as it is met; a slice's spare places count too). A statement '..UptoSaid' is the law's where the arguments, and the package variables that the reading takes, are together of bulk at most 1048576: NARROWER than '..Said'. Prove '..Said' where nothing that the law and all that it calls make is longer than what came in: it says more and counts as full. Else prove '..UptoSaid'. A law counts once. -/
mutual
def uptoBulk {H : Type} : DataW H → Nat
  | .lit (.string bytes) => bytes.length + 1
  | .lit _ => 1
  | .nil => 1
  | .ptr d => uptoBulk d + 1
  | .slice elems spare => uptoBulkAll elems + uptoBulkAll spare + 1
  | .agg parts => uptoBulkAll parts + 1
  | .iface _ d => uptoBulk d + 1
  | .map entries => uptoBulkEntries entries + 1
  | .held _ => 1
def uptoBulkAll {H : Type} : List (DataW H) → Nat
  | [] => 0
  | d :: r => uptoBulk d + uptoBulkAll r
def uptoBulkEntries {H : Type} : List (Lit × DataW H) → Nat
  | [] => 0
  | x :: r => uptoBulkEntry x + uptoBulkEntries r
def uptoBulkEntry {H : Type} : Lit × DataW H → Nat
  | (.string bytes, d) => bytes.length + uptoBulk d + 1
  | (_, d) => uptoBulk d + 1
 end
def uptoSmall : (H : Type) → List (DataW H) → Bool := fun _ ds => decide (uptoBulkAll ds ≤ 1048576)
def OpenSpec.upto (s : _root_.Go.ChangeSpec) : _root_.Go.OpenSpec := { _root_.Go.OpenSpec.ofChange s with cond := some uptoSmall }

/-- 'carrellaw05.MachRuns', WHERE WHAT IT READS IS OF BULK AT MOST 1048576: true; the input reads as it did. -/
def machRunsUptoRow : OpenClaim := { program := "yteegkhnikcioiaagreatdoor", sum := "a3ae52ee80d06b08c3ca5e9610fdf98b6ad74e6c60e74ce044fc518f31c21421", func := "carrel/carrellaw05.MachRuns", spec := "machRuns", unfollowed := true, recurses := true, named := ["carrel/cpu.ways"], apart := false, laid := [("carrel/cpu.ways", laid_carrel_cpu_ways)], narrowed := true }
def MachRunsUptoSaid : Prop := machRunsUptoRow.holds Tryz.pinned (OpenSpec.upto machRunsSpec)

/-- 'carrellaw05.MachPieces', WHERE WHAT IT READS IS OF BULK AT MOST 1048576: true; the input reads as it did. -/
def machPiecesUptoRow : OpenClaim := { program := "yteegkhnikcioiaagreatdoor", sum := "a3ae52ee80d06b08c3ca5e9610fdf98b6ad74e6c60e74ce044fc518f31c21421", func := "carrel/carrellaw05.MachPieces", spec := "machPieces", unfollowed := true, recurses := true, named := ["carrel/cpu.ways"], apart := false, laid := [("carrel/cpu.ways", laid_carrel_cpu_ways)], narrowed := true }
def MachPiecesUptoSaid : Prop := machPiecesUptoRow.holds Tryz.pinned (OpenSpec.upto machPiecesSpec)

/-- 'carrellaw05.MachEnds', WHERE WHAT IT READS IS OF BULK AT MOST 1048576: true; the input reads as it did. -/
def machEndsUptoRow : OpenClaim := { program := "yteegkhnikcioiaagreatdoor", sum := "a3ae52ee80d06b08c3ca5e9610fdf98b6ad74e6c60e74ce044fc518f31c21421", func := "carrel/carrellaw05.MachEnds", spec := "machEnds", unfollowed := true, recurses := true, named := ["carrel/cpu.ways"], apart := false, laid := [("carrel/cpu.ways", laid_carrel_cpu_ways)], narrowed := true }
def MachEndsUptoSaid : Prop := machEndsUptoRow.holds Tryz.pinned (OpenSpec.upto machEndsSpec)

/-- 'carrellaw05.MachVector', WHERE WHAT IT READS IS OF BULK AT MOST 1048576: true; the input reads as it did. -/
def machVectorUptoRow : OpenClaim := { program := "yteegkhnikcioiaagreatdoor", sum := "a3ae52ee80d06b08c3ca5e9610fdf98b6ad74e6c60e74ce044fc518f31c21421", func := "carrel/carrellaw05.MachVector", spec := "machVector", unfollowed := true, recurses := true, named := ["carrel/cpu.ways"], apart := false, laid := [("carrel/cpu.ways", laid_carrel_cpu_ways)], narrowed := true }
def MachVectorUptoSaid : Prop := machVectorUptoRow.holds Tryz.pinned (OpenSpec.upto machVectorSpec)

/-- 'carrellaw05.MachCuts', WHERE WHAT IT READS IS OF BULK AT MOST 1048576: true; the input reads as it did. -/
def machCutsUptoRow : OpenClaim := { program := "yteegkhnikcioiaagreatdoor", sum := "a3ae52ee80d06b08c3ca5e9610fdf98b6ad74e6c60e74ce044fc518f31c21421", func := "carrel/carrellaw05.MachCuts", spec := "machCuts", unfollowed := true, recurses := true, named := ["carrel/cpu.ways"], apart := false, laid := [("carrel/cpu.ways", laid_carrel_cpu_ways)], narrowed := true }
def MachCutsUptoSaid : Prop := machCutsUptoRow.holds Tryz.pinned (OpenSpec.upto machCutsSpec)

/-- 'carrellaw05.MachNone', WHERE WHAT IT READS IS OF BULK AT MOST 1048576: true; the input reads as it did. -/
def machNoneUptoRow : OpenClaim := { program := "yteegkhnikcioiaagreatdoor", sum := "a3ae52ee80d06b08c3ca5e9610fdf98b6ad74e6c60e74ce044fc518f31c21421", func := "carrel/carrellaw05.MachNone", spec := "machNone", unfollowed := true, recurses := true, named := ["carrel/cpu.ways"], apart := false, laid := [("carrel/cpu.ways", laid_carrel_cpu_ways)], narrowed := true }
def MachNoneUptoSaid : Prop := machNoneUptoRow.holds Tryz.pinned (OpenSpec.upto machNoneSpec)

end Rows
end Go.Proofs.YteegkhnikcioiaaGreatDoor
