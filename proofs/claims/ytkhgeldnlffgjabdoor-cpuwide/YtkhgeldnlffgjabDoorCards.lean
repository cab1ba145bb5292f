/-
  DERIVED. GIVEN WITH THE SEED: THE CARDS: each row of YtkhgeldnlffgjabDoorRows.lean that lists a variable, with what it lists TIED to the program's text (the seventh form; the later family's looks); each row that meets fmt, with fmt's text TOLD by the authors' own Lean function (tested against real Go, not proved from fmt's source: count such statements apart). THE CARD IS WHAT COUNTS. Prove the row's statement (the work); the ties are given (YtkhgeldnlffgjabDoorTie.lean); close each card by the builder's one call (the guide's Derived/Test/ToyasCard.lean, 'card_holds'). Laid BY PROGRAM, IN A SANDBOX (cutbox-door.mjs). By AI agents, Wed Nov 11 2026. No macro, syntax, notation, axiom, sorry.
-/
import Derived.Test.YtkhgeldnlffgjabDoorRows
import GoSem.ClaimSeven
namespace Go.Proofs.YtkhgeldnlffgjabDoor
namespace Rows

/-- THE TIED CARD OF 'carrellaw02.CpuKeeps'. -/
def cpuKeepsCard : Claim7 := { stood := { row := cpuKeepsRow, standIns := [], harness := (true, "c2bd8fe6e71125da1844178918d2d89b7fbedde1ce63d18b45465f4d5e92f913"), looks := false }, kinds := [], alts := [], laidByText := true, laidKinds := [.data], laidTests := true, laidLooks := .later }
def CpuKeepsCardSaid : Prop := Claim7.holds Tryd.pinned (.plain (OpenSpec.ofChange cpuKeepsSpec)) cpuKeepsCard

/-- THE TIED CARD OF 'carrellaw02.CpuWide'. -/
def cpuWideCard : Claim7 := { stood := { row := cpuWideRow, standIns := [], harness := (true, "c2bd8fe6e71125da1844178918d2d89b7fbedde1ce63d18b45465f4d5e92f913"), looks := false }, kinds := [], alts := [], laidByText := true, laidKinds := [.data], laidTests := true, laidLooks := .later }
def CpuWideCardSaid : Prop := Claim7.holds Tryd.pinned (.plain (OpenSpec.ofChange cpuWideSpec)) cpuWideCard

/-- THE TIED CARD OF 'carrellaw02.CpuDivides'. -/
def cpuDividesCard : Claim7 := { stood := { row := cpuDividesRow, standIns := [], harness := (true, "c2bd8fe6e71125da1844178918d2d89b7fbedde1ce63d18b45465f4d5e92f913"), looks := false }, kinds := [], alts := [], laidByText := true, laidKinds := [.data], laidTests := true, laidLooks := .later }
def CpuDividesCardSaid : Prop := Claim7.holds Tryd.pinned (.plain (OpenSpec.ofChange cpuDividesSpec)) cpuDividesCard

/-- THE SECOND FORM's CARD OF 'carrellaw02.CpuKeeps'. -/
def cpuKeepsUptoCard : Claim7 := { stood := { row := cpuKeepsUptoRow, standIns := [], harness := (true, "c2bd8fe6e71125da1844178918d2d89b7fbedde1ce63d18b45465f4d5e92f913"), looks := false }, kinds := [], alts := [], laidByText := true, laidKinds := [.data], laidTests := true, laidLooks := .later }
def CpuKeepsUptoCardSaid : Prop := Claim7.holds Tryd.pinned (.plain (OpenSpec.upto cpuKeepsSpec)) cpuKeepsUptoCard

/-- THE SECOND FORM's CARD OF 'carrellaw02.CpuWide'. -/
def cpuWideUptoCard : Claim7 := { stood := { row := cpuWideUptoRow, standIns := [], harness := (true, "c2bd8fe6e71125da1844178918d2d89b7fbedde1ce63d18b45465f4d5e92f913"), looks := false }, kinds := [], alts := [], laidByText := true, laidKinds := [.data], laidTests := true, laidLooks := .later }
def CpuWideUptoCardSaid : Prop := Claim7.holds Tryd.pinned (.plain (OpenSpec.upto cpuWideSpec)) cpuWideUptoCard

/-- THE SECOND FORM's CARD OF 'carrellaw02.CpuDivides'. -/
def cpuDividesUptoCard : Claim7 := { stood := { row := cpuDividesUptoRow, standIns := [], harness := (true, "c2bd8fe6e71125da1844178918d2d89b7fbedde1ce63d18b45465f4d5e92f913"), looks := false }, kinds := [], alts := [], laidByText := true, laidKinds := [.data], laidTests := true, laidLooks := .later }
def CpuDividesUptoCardSaid : Prop := Claim7.holds Tryd.pinned (.plain (OpenSpec.upto cpuDividesSpec)) cpuDividesUptoCard
end Rows
end Go.Proofs.YtkhgeldnlffgjabDoor
