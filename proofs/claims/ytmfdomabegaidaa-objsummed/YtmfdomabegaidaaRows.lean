/-
  No cell of these rows narrows 'for every input' (looked for: loops, veiled, ifaces, maps, wideKeys, modest, calm, conditions, laid).
  DERIVED. THE GIVEN ROWS OF THIS SEAT. 3 by the template 'for every input the law returns true; each argument reads behind the call as it read before'; 0 by the template 'total and deterministic' (their statements: YtmfdomabegaidaaTotals.lean).
  GIVEN WITH THE SEED: the statements are not yours to turn. If you find one false, say at which input.
  Laid BY PROGRAM, IN A SANDBOX (cutbox-rows.mjs): the forced cells as the released guide's own fill.sh prints them over the translation 16199f9f4b07f717… (all of the seat's roots in one cut). By AI agents, Wed Nov 11 2026. No macro, syntax, notation, axiom, sorry.
-/
import Derived.Test.YtmfdomabegaidaaChecked
import GoSem.Claim
import GoSem.ClaimJoined
import GoSem.ClaimMapViews
import Derived.JoinedTies
import Derived.KernelRfl
namespace Go.Proofs.Ytmfdomabegaidaa
/- THE CELL 'sum', in the pinned program and in every row, IS THE sha256 OF THE DUMP (.gsa) THAT YtmfdomabegaidaaProg.lean LOADS. Nothing in Lean hashes anything: it is a label: what it is worth is what the hold of that sum in a sandbox is worth. -/
noncomputable def Try.pinned : Pinned := { name := "ytmfdomabegaidaa", sum := "16199f9f4b07f7171672457adf3b60dbc236aafadd52f3ad7284ba3737a70c2b", checked := Try.checked }
namespace Rows
def none {H : Type} : Left H := { results := [], args := [] }

/-- 'carrellaw07.ObjBytes': WHATEVER THE INPUT: true; the input reads as it did. -/
def objBytesSpec : ChangeSpec := { name := "objBytes", fn := fun _ => fun
  | [d] => { results := [.lit (.bool true)], args := [d] }
  | _ => none }
def objBytesRow : OpenClaim := { program := "ytmfdomabegaidaa", sum := "16199f9f4b07f7171672457adf3b60dbc236aafadd52f3ad7284ba3737a70c2b", func := "carrel/carrellaw07.ObjBytes", spec := "objBytes", unfollowed := true, recurses := true, apart := false }
def ObjBytesSaid : Prop := objBytesRow.holds Try.pinned (OpenSpec.ofChange objBytesSpec)

/-- ITS FALSE NEIGHBOUR: 'it returns false'. Refute it at one input. -/
def objBytesWrong : ChangeSpec := { name := "objBytes", fn := fun _ => fun
  | [d] => { results := [.lit (.bool false)], args := [d] }
  | _ => none }
def ObjBytesWrongFalsely : Prop := objBytesRow.holds Try.pinned (OpenSpec.ofChange objBytesWrong)

/-- 'carrellaw07.ObjReads': WHATEVER THE INPUT: true; the input reads as it did. -/
def objReadsSpec : ChangeSpec := { name := "objReads", fn := fun _ => fun
  | [d] => { results := [.lit (.bool true)], args := [d] }
  | _ => none }
def objReadsRow : OpenClaim := { program := "ytmfdomabegaidaa", sum := "16199f9f4b07f7171672457adf3b60dbc236aafadd52f3ad7284ba3737a70c2b", func := "carrel/carrellaw07.ObjReads", spec := "objReads", unfollowed := true, recurses := true, apart := false }
def ObjReadsSaid : Prop := objReadsRow.holds Try.pinned (OpenSpec.ofChange objReadsSpec)

/-- ITS FALSE NEIGHBOUR: 'it returns false'. Refute it at one input. -/
def objReadsWrong : ChangeSpec := { name := "objReads", fn := fun _ => fun
  | [d] => { results := [.lit (.bool false)], args := [d] }
  | _ => none }
def ObjReadsWrongFalsely : Prop := objReadsRow.holds Try.pinned (OpenSpec.ofChange objReadsWrong)

/-- 'carrellaw07.ObjSummed': WHATEVER THE INPUT: true; the input reads as it did. -/
def objSummedSpec : ChangeSpec := { name := "objSummed", fn := fun _ => fun
  | [d] => { results := [.lit (.bool true)], args := [d] }
  | _ => none }
def objSummedRow : OpenClaim := { program := "ytmfdomabegaidaa", sum := "16199f9f4b07f7171672457adf3b60dbc236aafadd52f3ad7284ba3737a70c2b", func := "carrel/carrellaw07.ObjSummed", spec := "objSummed", unfollowed := true, recurses := true, apart := false }
def ObjSummedSaid : Prop := objSummedRow.holds Try.pinned (OpenSpec.ofChange objSummedSpec)

/-- ITS FALSE NEIGHBOUR: 'it returns false'. Refute it at one input. -/
def objSummedWrong : ChangeSpec := { name := "objSummed", fn := fun _ => fun
  | [d] => { results := [.lit (.bool false)], args := [d] }
  | _ => none }
def ObjSummedWrongFalsely : Prop := objSummedRow.holds Try.pinned (OpenSpec.ofChange objSummedWrong)

/- THE SECOND FORM. 'bulk': how many values and letters a reading holds, each counted each time it is reached (what is shared counts as often as it is met; a slice's spare places count too). A statement '..UptoSaid' is the law's where the arguments, and the package variables that the reading takes, are together of bulk at most 1048576: NARROWER than '..Said'. Prove '..Said' where nothing that the law and all that it calls make is longer than what came in: it says more and counts as full. Else prove '..UptoSaid'. A law counts once. -/
mutual
def uptoBulk {H : Type} : DataW H → Nat
  | .lit (.string bytes) => bytes.length + 1
  | .lit _ => 1
  | .nil => 1
  | .ptr d => uptoBulk d + 1
  | .slice elems spare => uptoBulkAll elems + uptoBulkAll spare + 1
  | .agg parts => uptoBulkAll parts + 1
  | .iface _ d => uptoBulk d + 1
  | .map entries => uptoBulkEntries entries + 1
  | .held _ => 1
def uptoBulkAll {H : Type} : List (DataW H) → Nat
  | [] => 0
  | d :: r => uptoBulk d + uptoBulkAll r
def uptoBulkEntries {H : Type} : List (Lit × DataW H) → Nat
  | [] => 0
  | x :: r => uptoBulkEntry x + uptoBulkEntries r
def uptoBulkEntry {H : Type} : Lit × DataW H → Nat
  | (.string bytes, d) => bytes.length + uptoBulk d + 1
  | (_, d) => uptoBulk d + 1
 end
def uptoSmall : (H : Type) → List (DataW H) → Bool := fun _ ds => decide (uptoBulkAll ds ≤ 1048576)
def OpenSpec.upto (s : _root_.Go.ChangeSpec) : _root_.Go.OpenSpec := { _root_.Go.OpenSpec.ofChange s with cond := some uptoSmall }

/-- 'carrellaw07.ObjBytes', WHERE WHAT IT READS IS OF BULK AT MOST 1048576: true; the input reads as it did. -/
def objBytesUptoRow : OpenClaim := { program := "ytmfdomabegaidaa", sum := "16199f9f4b07f7171672457adf3b60dbc236aafadd52f3ad7284ba3737a70c2b", func := "carrel/carrellaw07.ObjBytes", spec := "objBytes", unfollowed := true, recurses := true, apart := false, narrowed := true }
def ObjBytesUptoSaid : Prop := objBytesUptoRow.holds Try.pinned (OpenSpec.upto objBytesSpec)

/-- 'carrellaw07.ObjReads', WHERE WHAT IT READS IS OF BULK AT MOST 1048576: true; the input reads as it did. -/
def objReadsUptoRow : OpenClaim := { program := "ytmfdomabegaidaa", sum := "16199f9f4b07f7171672457adf3b60dbc236aafadd52f3ad7284ba3737a70c2b", func := "carrel/carrellaw07.ObjReads", spec := "objReads", unfollowed := true, recurses := true, apart := false, narrowed := true }
def ObjReadsUptoSaid : Prop := objReadsUptoRow.holds Try.pinned (OpenSpec.upto objReadsSpec)

/-- 'carrellaw07.ObjSummed', WHERE WHAT IT READS IS OF BULK AT MOST 1048576: true; the input reads as it did. -/
def objSummedUptoRow : OpenClaim := { program := "ytmfdomabegaidaa", sum := "16199f9f4b07f7171672457adf3b60dbc236aafadd52f3ad7284ba3737a70c2b", func := "carrel/carrellaw07.ObjSummed", spec := "objSummed", unfollowed := true, recurses := true, apart := false, narrowed := true }
def ObjSummedUptoSaid : Prop := objSummedUptoRow.holds Try.pinned (OpenSpec.upto objSummedSpec)

end Rows
end Go.Proofs.Ytmfdomabegaidaa
