/-
  DERIVED. GIVEN WITH THE SEED: THE CARDS: each row of YtgkfnfilomjphaaDoorRows.lean that lists a variable, with what it lists TIED to the program's text (the seventh form; the later family's looks); each row that meets fmt, with fmt's text TOLD by the authors' own Lean function (tested against real Go, not proved from fmt's source: count such statements apart). THE CARD IS WHAT COUNTS. Prove the row's statement (the work); the ties are given (YtgkfnfilomjphaaDoorTie.lean); close each card by the builder's one call (the guide's Derived/Test/ToyasCard.lean, 'card_holds'). Laid BY PROGRAM, IN A SANDBOX (cutbox-door.mjs). By AI agents, Wed Nov 11 2026. No macro, syntax, notation, axiom, sorry.
-/
import Derived.Test.YtgkfnfilomjphaaDoorRows
import GoSem.ClaimSeven
namespace Go.Proofs.YtgkfnfilomjphaaDoor
namespace Rows

/-- THE TIED CARD OF 'carrellaw11.TypesLaid'. -/
def typesLaidCard : Claim7 := { stood := { row := typesLaidRow, standIns := [], harness := (true, "a4e7594ce608e77a028d1fd935196c6c65378a357892c660ece870882c362d22"), looks := false }, kinds := [], alts := [], laidByText := true, laidKinds := [.data], laidTests := true, laidLooks := .later }
def TypesLaidCardSaid : Prop := Claim7.holds Tryd.pinned (.plain (OpenSpec.ofChange typesLaidSpec)) typesLaidCard

/-- THE TIED CARD OF 'carrellaw11.TypesOrder'. -/
def typesOrderCard : Claim7 := { stood := { row := typesOrderRow, standIns := [], harness := (true, "a4e7594ce608e77a028d1fd935196c6c65378a357892c660ece870882c362d22"), looks := false }, kinds := [], alts := [], laidByText := true, laidKinds := [.data], laidTests := true, laidLooks := .later }
def TypesOrderCardSaid : Prop := Claim7.holds Tryd.pinned (.plain (OpenSpec.ofChange typesOrderSpec)) typesOrderCard

/-- THE SECOND FORM's CARD OF 'carrellaw11.TypesLaid'. -/
def typesLaidUptoCard : Claim7 := { stood := { row := typesLaidUptoRow, standIns := [], harness := (true, "a4e7594ce608e77a028d1fd935196c6c65378a357892c660ece870882c362d22"), looks := false }, kinds := [], alts := [], laidByText := true, laidKinds := [.data], laidTests := true, laidLooks := .later }
def TypesLaidUptoCardSaid : Prop := Claim7.holds Tryd.pinned (.plain (OpenSpec.upto typesLaidSpec)) typesLaidUptoCard

/-- THE SECOND FORM's CARD OF 'carrellaw11.TypesOrder'. -/
def typesOrderUptoCard : Claim7 := { stood := { row := typesOrderUptoRow, standIns := [], harness := (true, "a4e7594ce608e77a028d1fd935196c6c65378a357892c660ece870882c362d22"), looks := false }, kinds := [], alts := [], laidByText := true, laidKinds := [.data], laidTests := true, laidLooks := .later }
def TypesOrderUptoCardSaid : Prop := Claim7.holds Tryd.pinned (.plain (OpenSpec.upto typesOrderSpec)) typesOrderUptoCard
end Rows
end Go.Proofs.YtgkfnfilomjphaaDoor
