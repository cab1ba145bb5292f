/-
  NARROWER THAN 'FOR EVERY INPUT', by the rows' own cells (each row's printed sentence says how): CpuKeeps: laid · CpuWide: laid · CpuDivides: laid.
  DERIVED. THE GIVEN ROWS OF THIS SEAT. 3 by the template 'for every input the law returns true; each argument reads behind the call as it read before'; 0 by the template 'total and deterministic' (their statements: YtkhgeldnlffgjabDoorTotals.lean).
  GIVEN WITH THE SEED: the statements are not yours to turn. If you find one false, say at which input.
  Laid BY PROGRAM, IN A SANDBOX (cutbox-rows.mjs): the forced cells as the released guide's own fill.sh prints them over the translation 69b58010febc1a74… (all of the seat's roots in one cut). By AI agents, Wed Nov 11 2026. No macro, syntax, notation, axiom, sorry.
-/
import Derived.Test.YtkhgeldnlffgjabDoorChecked
import GoSem.Claim
import GoSem.ClaimJoined
import GoSem.ClaimMapViews
import Derived.JoinedTies
import Derived.KernelRfl
namespace Go.Proofs.YtkhgeldnlffgjabDoor
/- THE CELL 'sum', in the pinned program and in every row, IS THE sha256 OF THE DUMP (.gsa) THAT YtkhgeldnlffgjabDoorProg.lean LOADS. Nothing in Lean hashes anything: it is a label: what it is worth is what the hold of that sum in a sandbox is worth. -/
noncomputable def Tryd.pinned : Pinned := { name := "ytkhgeldnlffgjabdoor", sum := "69b58010febc1a740cabbedb4ccc04d5ee387bebbb5142b12fe6dc19d43f1e54", checked := Tryd.checked }
namespace Rows
def none {H : Type} : Left H := { results := [], args := [] }

/- WHAT THE LISTED PACKAGE-LEVEL VARIABLES READ AS WHEN THE CALL BEGINS. Each datum BY PROGRAM (the guide's laid-datum.mjs) off the statement by which the dump's own 'gosem.cut.vars' lays the variable. In a bare row this is a premise. The card (YtkhgeldnlffgjabDoorCards.lean) ties it to the program's text. -/
def laid_carrel_cpu_ways {H : Type} : DataW H := .agg [.agg [.lit (.int .i64 13), .lit (.int .i64 7)], .agg [.lit (.int .i64 1), .lit (.int .i64 3)], .agg [.lit (.int .i64 1), .lit (.int .i64 3)], .agg [.lit (.int .i64 1), .lit (.int .i64 3)], .agg [.lit (.int .i64 1), .lit (.int .i64 3)], .agg [.lit (.int .i64 1), .lit (.int .i64 3)], .agg [.lit (.int .i64 1), .lit (.int .i64 3)], .agg [.lit (.int .i64 1), .lit (.int .i64 3)], .agg [.lit (.int .i64 5), .lit (.int .i64 15)], .agg [.lit (.int .i64 5), .lit (.int .i64 15)], .agg [.lit (.int .i64 5), .lit (.int .i64 15)], .agg [.lit (.int .i64 1), .lit (.int .i64 3)], .agg [.lit (.int .i64 0), .lit (.int .i64 0)], .agg [.lit (.int .i64 0), .lit (.int .i64 0)], .agg [.lit (.int .i64 0), .lit (.int .i64 0)], .agg [.lit (.int .i64 0), .lit (.int .i64 1)]]

/-- 'carrellaw02.CpuKeeps': WHATEVER THE INPUT: true; the input reads as it did. -/
def cpuKeepsSpec : ChangeSpec := { name := "cpuKeeps", fn := fun _ => fun
  | [d1, d2, d3] => { results := [.lit (.bool true)], args := [d1, d2, d3] }
  | _ => none }
def cpuKeepsRow : OpenClaim := { program := "ytkhgeldnlffgjabdoor", sum := "69b58010febc1a740cabbedb4ccc04d5ee387bebbb5142b12fe6dc19d43f1e54", func := "carrel/carrellaw02.CpuKeeps", spec := "cpuKeeps", named := ["carrel/cpu.ways"], apart := false, laid := [("carrel/cpu.ways", laid_carrel_cpu_ways)] }
def CpuKeepsSaid : Prop := cpuKeepsRow.holds Tryd.pinned (OpenSpec.ofChange cpuKeepsSpec)

/-- ITS FALSE NEIGHBOUR: 'it returns false'. Refute it at one input. -/
def cpuKeepsWrong : ChangeSpec := { name := "cpuKeeps", fn := fun _ => fun
  | [d1, d2, d3] => { results := [.lit (.bool false)], args := [d1, d2, d3] }
  | _ => none }
def CpuKeepsWrongFalsely : Prop := cpuKeepsRow.holds Tryd.pinned (OpenSpec.ofChange cpuKeepsWrong)

/-- 'carrellaw02.CpuWide': WHATEVER THE INPUT: true; the input reads as it did. -/
def cpuWideSpec : ChangeSpec := { name := "cpuWide", fn := fun _ => fun
  | [d1, d2] => { results := [.lit (.bool true)], args := [d1, d2] }
  | _ => none }
def cpuWideRow : OpenClaim := { program := "ytkhgeldnlffgjabdoor", sum := "69b58010febc1a740cabbedb4ccc04d5ee387bebbb5142b12fe6dc19d43f1e54", func := "carrel/carrellaw02.CpuWide", spec := "cpuWide", named := ["carrel/cpu.ways"], apart := false, laid := [("carrel/cpu.ways", laid_carrel_cpu_ways)] }
def CpuWideSaid : Prop := cpuWideRow.holds Tryd.pinned (OpenSpec.ofChange cpuWideSpec)

/-- ITS FALSE NEIGHBOUR: 'it returns false'. Refute it at one input. -/
def cpuWideWrong : ChangeSpec := { name := "cpuWide", fn := fun _ => fun
  | [d1, d2] => { results := [.lit (.bool false)], args := [d1, d2] }
  | _ => none }
def CpuWideWrongFalsely : Prop := cpuWideRow.holds Tryd.pinned (OpenSpec.ofChange cpuWideWrong)

/-- 'carrellaw02.CpuDivides': WHATEVER THE INPUT: true; the input reads as it did. -/
def cpuDividesSpec : ChangeSpec := { name := "cpuDivides", fn := fun _ => fun
  | [d1, d2] => { results := [.lit (.bool true)], args := [d1, d2] }
  | _ => none }
def cpuDividesRow : OpenClaim := { program := "ytkhgeldnlffgjabdoor", sum := "69b58010febc1a740cabbedb4ccc04d5ee387bebbb5142b12fe6dc19d43f1e54", func := "carrel/carrellaw02.CpuDivides", spec := "cpuDivides", named := ["carrel/cpu.ways"], apart := false, laid := [("carrel/cpu.ways", laid_carrel_cpu_ways)] }
def CpuDividesSaid : Prop := cpuDividesRow.holds Tryd.pinned (OpenSpec.ofChange cpuDividesSpec)

/-- ITS FALSE NEIGHBOUR: 'it returns false'. Refute it at one input. -/
def cpuDividesWrong : ChangeSpec := { name := "cpuDivides", fn := fun _ => fun
  | [d1, d2] => { results := [.lit (.bool false)], args := [d1, d2] }
  | _ => none }
def CpuDividesWrongFalsely : Prop := cpuDividesRow.holds Tryd.pinned (OpenSpec.ofChange cpuDividesWrong)

/- THE SECOND FORM. 'bulk': how many values and letters a reading holds, each counted each time it is reached (what is shared counts as often as it is met; a slice's spare places count too). A statement '..UptoSaid' is the law's where the arguments, and the package variables that the reading takes, are together of bulk at most 1048576: NARROWER than '..Said'. Prove '..Said' where nothing that the law and all that it calls make is longer than what came in: it says more and counts as full. Else prove '..UptoSaid'. A law counts once. -/
mutual
def uptoBulk {H : Type} : DataW H → Nat
  | .lit (.string bytes) => bytes.length + 1
  | .lit _ => 1
  | .nil => 1
  | .ptr d => uptoBulk d + 1
  | .slice elems spare => uptoBulkAll elems + uptoBulkAll spare + 1
  | .agg parts => uptoBulkAll parts + 1
  | .iface _ d => uptoBulk d + 1
  | .map entries => uptoBulkEntries entries + 1
  | .held _ => 1
def uptoBulkAll {H : Type} : List (DataW H) → Nat
  | [] => 0
  | d :: r => uptoBulk d + uptoBulkAll r
def uptoBulkEntries {H : Type} : List (Lit × DataW H) → Nat
  | [] => 0
  | x :: r => uptoBulkEntry x + uptoBulkEntries r
def uptoBulkEntry {H : Type} : Lit × DataW H → Nat
  | (.string bytes, d) => bytes.length + uptoBulk d + 1
  | (_, d) => uptoBulk d + 1
 end
def uptoSmall : (H : Type) → List (DataW H) → Bool := fun _ ds => decide (uptoBulkAll ds ≤ 1048576)
def OpenSpec.upto (s : _root_.Go.ChangeSpec) : _root_.Go.OpenSpec := { _root_.Go.OpenSpec.ofChange s with cond := some uptoSmall }

/-- 'carrellaw02.CpuKeeps', WHERE WHAT IT READS IS OF BULK AT MOST 1048576: true; the input reads as it did. -/
def cpuKeepsUptoRow : OpenClaim := { program := "ytkhgeldnlffgjabdoor", sum := "69b58010febc1a740cabbedb4ccc04d5ee387bebbb5142b12fe6dc19d43f1e54", func := "carrel/carrellaw02.CpuKeeps", spec := "cpuKeeps", named := ["carrel/cpu.ways"], apart := false, laid := [("carrel/cpu.ways", laid_carrel_cpu_ways)], narrowed := true }
def CpuKeepsUptoSaid : Prop := cpuKeepsUptoRow.holds Tryd.pinned (OpenSpec.upto cpuKeepsSpec)

/-- 'carrellaw02.CpuWide', WHERE WHAT IT READS IS OF BULK AT MOST 1048576: true; the input reads as it did. -/
def cpuWideUptoRow : OpenClaim := { program := "ytkhgeldnlffgjabdoor", sum := "69b58010febc1a740cabbedb4ccc04d5ee387bebbb5142b12fe6dc19d43f1e54", func := "carrel/carrellaw02.CpuWide", spec := "cpuWide", named := ["carrel/cpu.ways"], apart := false, laid := [("carrel/cpu.ways", laid_carrel_cpu_ways)], narrowed := true }
def CpuWideUptoSaid : Prop := cpuWideUptoRow.holds Tryd.pinned (OpenSpec.upto cpuWideSpec)

/-- 'carrellaw02.CpuDivides', WHERE WHAT IT READS IS OF BULK AT MOST 1048576: true; the input reads as it did. -/
def cpuDividesUptoRow : OpenClaim := { program := "ytkhgeldnlffgjabdoor", sum := "69b58010febc1a740cabbedb4ccc04d5ee387bebbb5142b12fe6dc19d43f1e54", func := "carrel/carrellaw02.CpuDivides", spec := "cpuDivides", named := ["carrel/cpu.ways"], apart := false, laid := [("carrel/cpu.ways", laid_carrel_cpu_ways)], narrowed := true }
def CpuDividesUptoSaid : Prop := cpuDividesUptoRow.holds Tryd.pinned (OpenSpec.upto cpuDividesSpec)

end Rows
end Go.Proofs.YtkhgeldnlffgjabDoor
