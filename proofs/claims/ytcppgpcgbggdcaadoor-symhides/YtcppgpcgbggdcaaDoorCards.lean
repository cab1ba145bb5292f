/-
  DERIVED. GIVEN WITH THE SEED: THE CARDS: each row of YtcppgpcgbggdcaaDoorRows.lean that lists a variable, with what it lists TIED to the program's text (the seventh form; the later family's looks); each row that meets fmt, with fmt's text TOLD by the authors' own Lean function (tested against real Go, not proved from fmt's source: count such statements apart). THE CARD IS WHAT COUNTS. Prove the row's statement (the work); the ties are given (YtcppgpcgbggdcaaDoorTie.lean); close each card by the builder's one call (the guide's Derived/Test/ToyasCard.lean, 'card_holds'). Laid BY PROGRAM, IN A SANDBOX (cutbox-door.mjs). By AI agents, Wed Nov 11 2026. No macro, syntax, notation, axiom, sorry.
-/
import Derived.Test.YtcppgpcgbggdcaaDoorRows
import GoSem.ClaimSeven
namespace Go.Proofs.YtcppgpcgbggdcaaDoor
namespace Rows

/-- THE TIED CARD OF 'carrellaw13.SymBytes'. -/
def symBytesCard : Claim7 := { stood := { row := symBytesRow, standIns := [], harness := (true, "8620ac5eda24228c66bed578a0b59070bd076a3ae4dd4b6f545cf1f835e9f5bd"), looks := false }, kinds := [], alts := [], laidByText := true, laidKinds := [.data], laidTests := true, laidLooks := .later }
def SymBytesCardSaid : Prop := Claim7.holds Tryd.pinned (.plain (OpenSpec.ofChange symBytesSpec)) symBytesCard

/-- THE TIED CARD OF 'carrellaw13.SymReads'. -/
def symReadsCard : Claim7 := { stood := { row := symReadsRow, standIns := [], harness := (true, "8620ac5eda24228c66bed578a0b59070bd076a3ae4dd4b6f545cf1f835e9f5bd"), looks := false }, kinds := [], alts := [], laidByText := true, laidKinds := [.data], laidTests := true, laidLooks := .later }
def SymReadsCardSaid : Prop := Claim7.holds Tryd.pinned (.plain (OpenSpec.ofChange symReadsSpec)) symReadsCard

/-- THE TIED CARD OF 'carrellaw13.SymOneForm'. -/
def symOneFormCard : Claim7 := { stood := { row := symOneFormRow, standIns := [], harness := (true, "8620ac5eda24228c66bed578a0b59070bd076a3ae4dd4b6f545cf1f835e9f5bd"), looks := false }, kinds := [], alts := [], laidByText := true, laidKinds := [.data], laidTests := true, laidLooks := .later }
def SymOneFormCardSaid : Prop := Claim7.holds Tryd.pinned (.plain (OpenSpec.ofChange symOneFormSpec)) symOneFormCard

/-- THE TIED CARD OF 'carrellaw13.SymBack'. -/
def symBackCard : Claim7 := { stood := { row := symBackRow, standIns := [], harness := (true, "8620ac5eda24228c66bed578a0b59070bd076a3ae4dd4b6f545cf1f835e9f5bd"), looks := false }, kinds := [], alts := [], laidByText := true, laidKinds := [.data], laidTests := true, laidLooks := .later }
def SymBackCardSaid : Prop := Claim7.holds Tryd.pinned (.plain (OpenSpec.ofChange symBackSpec)) symBackCard

/-- THE TIED CARD OF 'carrellaw13.SymHides'. -/
def symHidesCard : Claim7 := { stood := { row := symHidesRow, standIns := [], harness := (true, "8620ac5eda24228c66bed578a0b59070bd076a3ae4dd4b6f545cf1f835e9f5bd"), looks := false }, kinds := [], alts := [], laidByText := true, laidKinds := [.data], laidTests := true, laidLooks := .later }
def SymHidesCardSaid : Prop := Claim7.holds Tryd.pinned (.plain (OpenSpec.ofChange symHidesSpec)) symHidesCard

/-- THE SECOND FORM's CARD OF 'carrellaw13.SymBytes'. -/
def symBytesUptoCard : Claim7 := { stood := { row := symBytesUptoRow, standIns := [], harness := (true, "8620ac5eda24228c66bed578a0b59070bd076a3ae4dd4b6f545cf1f835e9f5bd"), looks := false }, kinds := [], alts := [], laidByText := true, laidKinds := [.data], laidTests := true, laidLooks := .later }
def SymBytesUptoCardSaid : Prop := Claim7.holds Tryd.pinned (.plain (OpenSpec.upto symBytesSpec)) symBytesUptoCard

/-- THE SECOND FORM's CARD OF 'carrellaw13.SymReads'. -/
def symReadsUptoCard : Claim7 := { stood := { row := symReadsUptoRow, standIns := [], harness := (true, "8620ac5eda24228c66bed578a0b59070bd076a3ae4dd4b6f545cf1f835e9f5bd"), looks := false }, kinds := [], alts := [], laidByText := true, laidKinds := [.data], laidTests := true, laidLooks := .later }
def SymReadsUptoCardSaid : Prop := Claim7.holds Tryd.pinned (.plain (OpenSpec.upto symReadsSpec)) symReadsUptoCard

/-- THE SECOND FORM's CARD OF 'carrellaw13.SymOneForm'. -/
def symOneFormUptoCard : Claim7 := { stood := { row := symOneFormUptoRow, standIns := [], harness := (true, "8620ac5eda24228c66bed578a0b59070bd076a3ae4dd4b6f545cf1f835e9f5bd"), looks := false }, kinds := [], alts := [], laidByText := true, laidKinds := [.data], laidTests := true, laidLooks := .later }
def SymOneFormUptoCardSaid : Prop := Claim7.holds Tryd.pinned (.plain (OpenSpec.upto symOneFormSpec)) symOneFormUptoCard

/-- THE SECOND FORM's CARD OF 'carrellaw13.SymBack'. -/
def symBackUptoCard : Claim7 := { stood := { row := symBackUptoRow, standIns := [], harness := (true, "8620ac5eda24228c66bed578a0b59070bd076a3ae4dd4b6f545cf1f835e9f5bd"), looks := false }, kinds := [], alts := [], laidByText := true, laidKinds := [.data], laidTests := true, laidLooks := .later }
def SymBackUptoCardSaid : Prop := Claim7.holds Tryd.pinned (.plain (OpenSpec.upto symBackSpec)) symBackUptoCard

/-- THE SECOND FORM's CARD OF 'carrellaw13.SymHides'. -/
def symHidesUptoCard : Claim7 := { stood := { row := symHidesUptoRow, standIns := [], harness := (true, "8620ac5eda24228c66bed578a0b59070bd076a3ae4dd4b6f545cf1f835e9f5bd"), looks := false }, kinds := [], alts := [], laidByText := true, laidKinds := [.data], laidTests := true, laidLooks := .later }
def SymHidesUptoCardSaid : Prop := Claim7.holds Tryd.pinned (.plain (OpenSpec.upto symHidesSpec)) symHidesUptoCard
end Rows
end Go.Proofs.YtcppgpcgbggdcaaDoor
