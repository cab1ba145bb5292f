/-
  NARROWER THAN 'FOR EVERY INPUT', by the rows' own cells (each row's printed sentence says how): TypesLaid: laid · TypesOrder: laid.
  DERIVED. THE GIVEN ROWS OF THIS SEAT. 2 by the template 'for every input the law returns true; each argument reads behind the call as it read before'; 0 by the template 'total and deterministic' (their statements: YtgkfnfilomjphaaDoorTotals.lean).
  GIVEN WITH THE SEED: the statements are not yours to turn. If you find one false, say at which input.
  Laid BY PROGRAM, IN A SANDBOX (cutbox-rows.mjs): the forced cells as the released guide's own fill.sh prints them over the translation 55875cf9f82108aa… (all of the seat's roots in one cut). By AI agents, Wed Nov 11 2026. No macro, syntax, notation, axiom, sorry.
-/
import Derived.Test.YtgkfnfilomjphaaDoorChecked
import GoSem.Claim
import GoSem.ClaimJoined
import GoSem.ClaimMapViews
import Derived.JoinedTies
import Derived.KernelRfl
namespace Go.Proofs.YtgkfnfilomjphaaDoor
/- THE CELL 'sum', in the pinned program and in every row, IS THE sha256 OF THE DUMP (.gsa) THAT YtgkfnfilomjphaaDoorProg.lean LOADS. Nothing in Lean hashes anything: it is a label: what it is worth is what the hold of that sum in a sandbox is worth. -/
noncomputable def Tryd.pinned : Pinned := { name := "ytgkfnfilomjphaadoor", sum := "55875cf9f82108aa4531741b50cf5b80446d24048455b50de68f79c671815f24", checked := Tryd.checked }
namespace Rows
def none {H : Type} : Left H := { results := [], args := [] }

/- WHAT THE LISTED PACKAGE-LEVEL VARIABLES READ AS WHEN THE CALL BEGINS. Each datum BY PROGRAM (the guide's laid-datum.mjs) off the statement by which the dump's own 'gosem.cut.vars' lays the variable. In a bare row this is a premise. The card (YtgkfnfilomjphaaDoorCards.lean) ties it to the program's text. -/
def laid_carrel_types_basicSizes {H : Type} : DataW H := .agg [.lit (.int .i64 0), .lit (.int .i64 4), .lit (.int .i64 1), .lit (.int .i64 1), .lit (.int .i64 1), .lit (.int .i64 4), .lit (.int .i64 4), .lit (.int .i64 0)]

/-- 'carrellaw11.TypesLaid': WHATEVER THE INPUT: true; the input reads as it did. -/
def typesLaidSpec : ChangeSpec := { name := "typesLaid", fn := fun _ => fun
  | [d1, d2, d3, d4] => { results := [.lit (.bool true)], args := [d1, d2, d3, d4] }
  | _ => none }
def typesLaidRow : OpenClaim := { program := "ytgkfnfilomjphaadoor", sum := "55875cf9f82108aa4531741b50cf5b80446d24048455b50de68f79c671815f24", func := "carrel/carrellaw11.TypesLaid", spec := "typesLaid", unfollowed := true, recurses := true, named := ["carrel/types.basicSizes"], apart := false, laid := [("carrel/types.basicSizes", laid_carrel_types_basicSizes)] }
def TypesLaidSaid : Prop := typesLaidRow.holds Tryd.pinned (OpenSpec.ofChange typesLaidSpec)

/-- ITS FALSE NEIGHBOUR: 'it returns false'. Refute it at one input. -/
def typesLaidWrong : ChangeSpec := { name := "typesLaid", fn := fun _ => fun
  | [d1, d2, d3, d4] => { results := [.lit (.bool false)], args := [d1, d2, d3, d4] }
  | _ => none }
def TypesLaidWrongFalsely : Prop := typesLaidRow.holds Tryd.pinned (OpenSpec.ofChange typesLaidWrong)

/-- 'carrellaw11.TypesOrder': WHATEVER THE INPUT: true; the input reads as it did. -/
def typesOrderSpec : ChangeSpec := { name := "typesOrder", fn := fun _ => fun
  | [d1, d2, d3, d4] => { results := [.lit (.bool true)], args := [d1, d2, d3, d4] }
  | _ => none }
def typesOrderRow : OpenClaim := { program := "ytgkfnfilomjphaadoor", sum := "55875cf9f82108aa4531741b50cf5b80446d24048455b50de68f79c671815f24", func := "carrel/carrellaw11.TypesOrder", spec := "typesOrder", unfollowed := true, recurses := true, named := ["carrel/types.basicSizes"], apart := false, laid := [("carrel/types.basicSizes", laid_carrel_types_basicSizes)] }
def TypesOrderSaid : Prop := typesOrderRow.holds Tryd.pinned (OpenSpec.ofChange typesOrderSpec)

/-- ITS FALSE NEIGHBOUR: 'it returns false'. Refute it at one input. -/
def typesOrderWrong : ChangeSpec := { name := "typesOrder", fn := fun _ => fun
  | [d1, d2, d3, d4] => { results := [.lit (.bool false)], args := [d1, d2, d3, d4] }
  | _ => none }
def TypesOrderWrongFalsely : Prop := typesOrderRow.holds Tryd.pinned (OpenSpec.ofChange typesOrderWrong)

/- THE SECOND FORM. 'bulk': how many values and letters a reading holds, each counted each time it is reached (what is shared counts as often as it is met; a slice's spare places count too). A statement '..UptoSaid' is the law's where the arguments, and the package variables that the reading takes, are together of bulk at most 1048576: NARROWER than '..Said'. Prove '..Said' where nothing that the law and all that it calls make is longer than what came in: it says more and counts as full. Else prove '..UptoSaid'. A law counts once. -/
mutual
def uptoBulk {H : Type} : DataW H → Nat
  | .lit (.string bytes) => bytes.length + 1
  | .lit _ => 1
  | .nil => 1
  | .ptr d => uptoBulk d + 1
  | .slice elems spare => uptoBulkAll elems + uptoBulkAll spare + 1
  | .agg parts => uptoBulkAll parts + 1
  | .iface _ d => uptoBulk d + 1
  | .map entries => uptoBulkEntries entries + 1
  | .held _ => 1
def uptoBulkAll {H : Type} : List (DataW H) → Nat
  | [] => 0
  | d :: r => uptoBulk d + uptoBulkAll r
def uptoBulkEntries {H : Type} : List (Lit × DataW H) → Nat
  | [] => 0
  | x :: r => uptoBulkEntry x + uptoBulkEntries r
def uptoBulkEntry {H : Type} : Lit × DataW H → Nat
  | (.string bytes, d) => bytes.length + uptoBulk d + 1
  | (_, d) => uptoBulk d + 1
 end
def uptoSmall : (H : Type) → List (DataW H) → Bool := fun _ ds => decide (uptoBulkAll ds ≤ 1048576)
def OpenSpec.upto (s : _root_.Go.ChangeSpec) : _root_.Go.OpenSpec := { _root_.Go.OpenSpec.ofChange s with cond := some uptoSmall }

/-- 'carrellaw11.TypesLaid', WHERE WHAT IT READS IS OF BULK AT MOST 1048576: true; the input reads as it did. -/
def typesLaidUptoRow : OpenClaim := { program := "ytgkfnfilomjphaadoor", sum := "55875cf9f82108aa4531741b50cf5b80446d24048455b50de68f79c671815f24", func := "carrel/carrellaw11.TypesLaid", spec := "typesLaid", unfollowed := true, recurses := true, named := ["carrel/types.basicSizes"], apart := false, laid := [("carrel/types.basicSizes", laid_carrel_types_basicSizes)], narrowed := true }
def TypesLaidUptoSaid : Prop := typesLaidUptoRow.holds Tryd.pinned (OpenSpec.upto typesLaidSpec)

/-- 'carrellaw11.TypesOrder', WHERE WHAT IT READS IS OF BULK AT MOST 1048576: true; the input reads as it did. -/
def typesOrderUptoRow : OpenClaim := { program := "ytgkfnfilomjphaadoor", sum := "55875cf9f82108aa4531741b50cf5b80446d24048455b50de68f79c671815f24", func := "carrel/carrellaw11.TypesOrder", spec := "typesOrder", unfollowed := true, recurses := true, named := ["carrel/types.basicSizes"], apart := false, laid := [("carrel/types.basicSizes", laid_carrel_types_basicSizes)], narrowed := true }
def TypesOrderUptoSaid : Prop := typesOrderUptoRow.holds Tryd.pinned (OpenSpec.upto typesOrderSpec)

end Rows
end Go.Proofs.YtgkfnfilomjphaaDoor
