/-
  DERIVED. GIVEN WITH THE SEED: THE CARDS: each row of YtkhgeldnlffgjaaDoorRows.lean that lists a variable, with what it lists TIED to the program's text (the seventh form; the later family's looks); each row that meets fmt, with fmt's text TOLD by the authors' own Lean function (tested against real Go, not proved from fmt's source: count such statements apart). THE CARD IS WHAT COUNTS. Prove the row's statement (the work); the ties are given (YtkhgeldnlffgjaaDoorTie.lean); close each card by the builder's one call (the guide's Derived/Test/ToyasCard.lean, 'card_holds'). Laid BY PROGRAM, IN A SANDBOX (cutbox-door.mjs). By AI agents, Wed Nov 11 2026. No macro, syntax, notation, axiom, sorry.
-/
import Derived.Test.YtkhgeldnlffgjaaDoorRows
import GoSem.ClaimSeven
namespace Go.Proofs.YtkhgeldnlffgjaaDoor
namespace Rows

/-- THE TIED CARD OF 'carrellaw02.CpuWords'. -/
def cpuWordsCard : Claim7 := { stood := { row := cpuWordsRow, standIns := [], harness := (true, "8fc2728e89318f25429b65d66d5e8eb42eecd2bd67d96f7b3af8a0f07556da29"), looks := false }, kinds := [], alts := [], laidByText := true, laidKinds := [.data], laidTests := true, laidLooks := .later }
def CpuWordsCardSaid : Prop := Claim7.holds Tryd.pinned (.plain (OpenSpec.ofChange cpuWordsSpec)) cpuWordsCard

/-- THE TIED CARD OF 'carrellaw02.CpuInstrs'. -/
def cpuInstrsCard : Claim7 := { stood := { row := cpuInstrsRow, standIns := [], harness := (true, "8fc2728e89318f25429b65d66d5e8eb42eecd2bd67d96f7b3af8a0f07556da29"), looks := false }, kinds := [], alts := [], laidByText := true, laidKinds := [.data], laidTests := true, laidLooks := .later }
def CpuInstrsCardSaid : Prop := Claim7.holds Tryd.pinned (.plain (OpenSpec.ofChange cpuInstrsSpec)) cpuInstrsCard

/-- THE TIED CARD OF 'carrellaw02.CpuBack'. -/
def cpuBackCard : Claim7 := { stood := { row := cpuBackRow, standIns := [], harness := (true, "8fc2728e89318f25429b65d66d5e8eb42eecd2bd67d96f7b3af8a0f07556da29"), looks := false }, kinds := [], alts := [], laidByText := true, laidKinds := [.data], laidTests := true, laidLooks := .later }
def CpuBackCardSaid : Prop := Claim7.holds Tryd.pinned (.plain (OpenSpec.ofChange cpuBackSpec)) cpuBackCard

/-- THE TIED CARD OF 'carrellaw02.CpuAccesses'. -/
def cpuAccessesCard : Claim7 := { stood := { row := cpuAccessesRow, standIns := [], harness := (true, "8fc2728e89318f25429b65d66d5e8eb42eecd2bd67d96f7b3af8a0f07556da29"), looks := false }, kinds := [], alts := [], laidByText := true, laidKinds := [.data], laidTests := true, laidLooks := .later }
def CpuAccessesCardSaid : Prop := Claim7.holds Tryd.pinned (.plain (OpenSpec.ofChange cpuAccessesSpec)) cpuAccessesCard

/-- THE TIED CARD OF 'carrellaw02.CpuExecs'. -/
def cpuExecsCard : Claim7 := { stood := { row := cpuExecsRow, standIns := [], harness := (true, "8fc2728e89318f25429b65d66d5e8eb42eecd2bd67d96f7b3af8a0f07556da29"), looks := false }, kinds := [], alts := [], laidByText := true, laidKinds := [.data], laidTests := true, laidLooks := .later }
def CpuExecsCardSaid : Prop := Claim7.holds Tryd.pinned (.plain (OpenSpec.ofChange cpuExecsSpec)) cpuExecsCard

/-- THE TIED CARD OF 'carrellaw02.CpuRuns'. -/
def cpuRunsCard : Claim7 := { stood := { row := cpuRunsRow, standIns := [], harness := (true, "8fc2728e89318f25429b65d66d5e8eb42eecd2bd67d96f7b3af8a0f07556da29"), looks := false }, kinds := [], alts := [], laidByText := true, laidKinds := [.data], laidTests := true, laidLooks := .later }
def CpuRunsCardSaid : Prop := Claim7.holds Tryd.pinned (.plain (OpenSpec.ofChange cpuRunsSpec)) cpuRunsCard

/-- THE SECOND FORM's CARD OF 'carrellaw02.CpuWords'. -/
def cpuWordsUptoCard : Claim7 := { stood := { row := cpuWordsUptoRow, standIns := [], harness := (true, "8fc2728e89318f25429b65d66d5e8eb42eecd2bd67d96f7b3af8a0f07556da29"), looks := false }, kinds := [], alts := [], laidByText := true, laidKinds := [.data], laidTests := true, laidLooks := .later }
def CpuWordsUptoCardSaid : Prop := Claim7.holds Tryd.pinned (.plain (OpenSpec.upto cpuWordsSpec)) cpuWordsUptoCard

/-- THE SECOND FORM's CARD OF 'carrellaw02.CpuInstrs'. -/
def cpuInstrsUptoCard : Claim7 := { stood := { row := cpuInstrsUptoRow, standIns := [], harness := (true, "8fc2728e89318f25429b65d66d5e8eb42eecd2bd67d96f7b3af8a0f07556da29"), looks := false }, kinds := [], alts := [], laidByText := true, laidKinds := [.data], laidTests := true, laidLooks := .later }
def CpuInstrsUptoCardSaid : Prop := Claim7.holds Tryd.pinned (.plain (OpenSpec.upto cpuInstrsSpec)) cpuInstrsUptoCard

/-- THE SECOND FORM's CARD OF 'carrellaw02.CpuBack'. -/
def cpuBackUptoCard : Claim7 := { stood := { row := cpuBackUptoRow, standIns := [], harness := (true, "8fc2728e89318f25429b65d66d5e8eb42eecd2bd67d96f7b3af8a0f07556da29"), looks := false }, kinds := [], alts := [], laidByText := true, laidKinds := [.data], laidTests := true, laidLooks := .later }
def CpuBackUptoCardSaid : Prop := Claim7.holds Tryd.pinned (.plain (OpenSpec.upto cpuBackSpec)) cpuBackUptoCard

/-- THE SECOND FORM's CARD OF 'carrellaw02.CpuAccesses'. -/
def cpuAccessesUptoCard : Claim7 := { stood := { row := cpuAccessesUptoRow, standIns := [], harness := (true, "8fc2728e89318f25429b65d66d5e8eb42eecd2bd67d96f7b3af8a0f07556da29"), looks := false }, kinds := [], alts := [], laidByText := true, laidKinds := [.data], laidTests := true, laidLooks := .later }
def CpuAccessesUptoCardSaid : Prop := Claim7.holds Tryd.pinned (.plain (OpenSpec.upto cpuAccessesSpec)) cpuAccessesUptoCard

/-- THE SECOND FORM's CARD OF 'carrellaw02.CpuExecs'. -/
def cpuExecsUptoCard : Claim7 := { stood := { row := cpuExecsUptoRow, standIns := [], harness := (true, "8fc2728e89318f25429b65d66d5e8eb42eecd2bd67d96f7b3af8a0f07556da29"), looks := false }, kinds := [], alts := [], laidByText := true, laidKinds := [.data], laidTests := true, laidLooks := .later }
def CpuExecsUptoCardSaid : Prop := Claim7.holds Tryd.pinned (.plain (OpenSpec.upto cpuExecsSpec)) cpuExecsUptoCard

/-- THE SECOND FORM's CARD OF 'carrellaw02.CpuRuns'. -/
def cpuRunsUptoCard : Claim7 := { stood := { row := cpuRunsUptoRow, standIns := [], harness := (true, "8fc2728e89318f25429b65d66d5e8eb42eecd2bd67d96f7b3af8a0f07556da29"), looks := false }, kinds := [], alts := [], laidByText := true, laidKinds := [.data], laidTests := true, laidLooks := .later }
def CpuRunsUptoCardSaid : Prop := Claim7.holds Tryd.pinned (.plain (OpenSpec.upto cpuRunsSpec)) cpuRunsUptoCard
end Rows
end Go.Proofs.YtkhgeldnlffgjaaDoor
