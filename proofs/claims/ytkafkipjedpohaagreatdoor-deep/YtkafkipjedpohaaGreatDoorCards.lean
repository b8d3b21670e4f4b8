/-
  DERIVED. GIVEN WITH THE SEED: THE CARDS: each row of YtkafkipjedpohaaGreatDoorRows.lean that lists a variable, with what it lists TIED to the program's text (the seventh form; the later family's looks); each row that meets fmt, with fmt's text TOLD by the authors' own Lean function (tested against real Go, not proved from fmt's source: count such statements apart). THE CARD IS WHAT COUNTS. Prove the row's statement (the work); the ties are given (YtkafkipjedpohaaGreatDoorTie.lean); close each card by the builder's one call (the guide's Derived/Test/ToyasCard.lean, 'card_holds'). Laid BY PROGRAM, IN A SANDBOX (cutbox-door.mjs). By AI agents, Wed Nov 11 2026. No macro, syntax, notation, axiom, sorry.
-/
import Derived.Test.YtkafkipjedpohaaGreatDoorRows
import GoSem.ClaimSeven
namespace Go.Proofs.YtkafkipjedpohaaGreatDoor
namespace Rows

/-- THE TIED CARD OF 'upshiftkeep.Checked'. -/
def checkedCard : Claim7 := { stood := { row := checkedRow, standIns := [], harness := (true, "5e7de04c24d65d590b6df8c921357787c531000a273bce56cf3d93dc1f4f5bc6"), looks := true }, kinds := [], alts := [], laidByText := true, laidKinds := [.data], laidTests := true, laidLooks := .later }
def CheckedCardSaid : Prop := Claim7.holds Tryz.pinned (.plain (OpenSpec.ofChange checkedSpec)) checkedCard

/-- THE TIED CARD OF 'upshiftlaw.Runs'. -/
def runsCard : Claim7 := { stood := { row := runsRow, standIns := [], harness := (true, "5e7de04c24d65d590b6df8c921357787c531000a273bce56cf3d93dc1f4f5bc6"), looks := true }, kinds := [], alts := [], laidByText := true, laidKinds := [.data], laidTests := true, laidLooks := .later }
def RunsCardSaid : Prop := Claim7.holds Tryz.pinned (.plain (OpenSpec.ofChange runsSpec)) runsCard

/-- THE TIED CARD OF 'upshiftkeep.Steps'. -/
def stepsCard : Claim7 := { stood := { row := stepsRow, standIns := [], harness := (true, "5e7de04c24d65d590b6df8c921357787c531000a273bce56cf3d93dc1f4f5bc6"), looks := true }, kinds := [], alts := [], laidByText := true, laidKinds := [.data], laidTests := true, laidLooks := .later }
def StepsCardSaid : Prop := Claim7.holds Tryz.pinned (.plain (OpenSpec.ofChange stepsSpec)) stepsCard

/-- THE TIED CARD OF 'upshiftlaw.Shifts'. -/
def shiftsCard : Claim7 := { stood := { row := shiftsRow, standIns := [], harness := (true, "5e7de04c24d65d590b6df8c921357787c531000a273bce56cf3d93dc1f4f5bc6"), looks := true }, kinds := [], alts := [], laidByText := true, laidKinds := [.data], laidTests := true, laidLooks := .later }
def ShiftsCardSaid : Prop := Claim7.holds Tryz.pinned (.plain (OpenSpec.ofChange shiftsSpec)) shiftsCard

/-- THE TIED CARD OF 'upshiftkeep.Summed'. -/
def summedCard : Claim7 := { stood := { row := summedRow, standIns := [], harness := (true, "5e7de04c24d65d590b6df8c921357787c531000a273bce56cf3d93dc1f4f5bc6"), looks := true }, kinds := [], alts := [], laidByText := true, laidKinds := [.data], laidTests := true, laidLooks := .later }
def SummedCardSaid : Prop := Claim7.holds Tryz.pinned (.plain (OpenSpec.ofChange summedSpec)) summedCard

/-- THE TIED CARD OF 'upshiftkeep.Gears'. -/
def gearsCard : Claim7 := { stood := { row := gearsRow, standIns := [], harness := (true, "5e7de04c24d65d590b6df8c921357787c531000a273bce56cf3d93dc1f4f5bc6"), looks := true }, kinds := [], alts := [], laidByText := true, laidKinds := [.data], laidTests := true, laidLooks := .later }
def GearsCardSaid : Prop := Claim7.holds Tryz.pinned (.plain (OpenSpec.ofChange gearsSpec)) gearsCard

/-- THE TIED CARD OF 'upshiftkeep.Deep'. -/
def deepCard : Claim7 := { stood := { row := deepRow, standIns := [], harness := (true, "5e7de04c24d65d590b6df8c921357787c531000a273bce56cf3d93dc1f4f5bc6"), looks := true }, kinds := [], alts := [], laidByText := true, laidKinds := [.data], laidTests := true, laidLooks := .later }
def DeepCardSaid : Prop := Claim7.holds Tryz.pinned (.plain (OpenSpec.ofChange deepSpec)) deepCard

/-- THE TIED CARD OF 'upshiftkeep.Apart'. -/
def apartCard : Claim7 := { stood := { row := apartRow, standIns := [], harness := (true, "5e7de04c24d65d590b6df8c921357787c531000a273bce56cf3d93dc1f4f5bc6"), looks := true }, kinds := [], alts := [], laidByText := true, laidKinds := [.data], laidTests := true, laidLooks := .later }
def ApartCardSaid : Prop := Claim7.holds Tryz.pinned (.plain (OpenSpec.ofChange apartSpec)) apartCard

/-- THE TIED CARD OF 'upshiftlaw.All'. -/
def allCard : Claim7 := { stood := { row := allRow, standIns := [], harness := (true, "5e7de04c24d65d590b6df8c921357787c531000a273bce56cf3d93dc1f4f5bc6"), looks := true }, kinds := [], alts := [], laidByText := true, laidKinds := [.data], laidTests := true, laidLooks := .later }
def AllCardSaid : Prop := Claim7.holds Tryz.pinned (.plain (OpenSpec.ofChange allSpec)) allCard

/-- THE SECOND FORM's CARD OF 'upshiftkeep.Checked'. -/
def checkedUptoCard : Claim7 := { stood := { row := checkedUptoRow, standIns := [], harness := (true, "5e7de04c24d65d590b6df8c921357787c531000a273bce56cf3d93dc1f4f5bc6"), looks := true }, kinds := [], alts := [], laidByText := true, laidKinds := [.data], laidTests := true, laidLooks := .later }
def CheckedUptoCardSaid : Prop := Claim7.holds Tryz.pinned (.plain (OpenSpec.upto checkedSpec)) checkedUptoCard

/-- THE SECOND FORM's CARD OF 'upshiftlaw.Runs'. -/
def runsUptoCard : Claim7 := { stood := { row := runsUptoRow, standIns := [], harness := (true, "5e7de04c24d65d590b6df8c921357787c531000a273bce56cf3d93dc1f4f5bc6"), looks := true }, kinds := [], alts := [], laidByText := true, laidKinds := [.data], laidTests := true, laidLooks := .later }
def RunsUptoCardSaid : Prop := Claim7.holds Tryz.pinned (.plain (OpenSpec.upto runsSpec)) runsUptoCard

/-- THE SECOND FORM's CARD OF 'upshiftkeep.Steps'. -/
def stepsUptoCard : Claim7 := { stood := { row := stepsUptoRow, standIns := [], harness := (true, "5e7de04c24d65d590b6df8c921357787c531000a273bce56cf3d93dc1f4f5bc6"), looks := true }, kinds := [], alts := [], laidByText := true, laidKinds := [.data], laidTests := true, laidLooks := .later }
def StepsUptoCardSaid : Prop := Claim7.holds Tryz.pinned (.plain (OpenSpec.upto stepsSpec)) stepsUptoCard

/-- THE SECOND FORM's CARD OF 'upshiftlaw.Shifts'. -/
def shiftsUptoCard : Claim7 := { stood := { row := shiftsUptoRow, standIns := [], harness := (true, "5e7de04c24d65d590b6df8c921357787c531000a273bce56cf3d93dc1f4f5bc6"), looks := true }, kinds := [], alts := [], laidByText := true, laidKinds := [.data], laidTests := true, laidLooks := .later }
def ShiftsUptoCardSaid : Prop := Claim7.holds Tryz.pinned (.plain (OpenSpec.upto shiftsSpec)) shiftsUptoCard

/-- THE SECOND FORM's CARD OF 'upshiftkeep.Summed'. -/
def summedUptoCard : Claim7 := { stood := { row := summedUptoRow, standIns := [], harness := (true, "5e7de04c24d65d590b6df8c921357787c531000a273bce56cf3d93dc1f4f5bc6"), looks := true }, kinds := [], alts := [], laidByText := true, laidKinds := [.data], laidTests := true, laidLooks := .later }
def SummedUptoCardSaid : Prop := Claim7.holds Tryz.pinned (.plain (OpenSpec.upto summedSpec)) summedUptoCard

/-- THE SECOND FORM's CARD OF 'upshiftkeep.Gears'. -/
def gearsUptoCard : Claim7 := { stood := { row := gearsUptoRow, standIns := [], harness := (true, "5e7de04c24d65d590b6df8c921357787c531000a273bce56cf3d93dc1f4f5bc6"), looks := true }, kinds := [], alts := [], laidByText := true, laidKinds := [.data], laidTests := true, laidLooks := .later }
def GearsUptoCardSaid : Prop := Claim7.holds Tryz.pinned (.plain (OpenSpec.upto gearsSpec)) gearsUptoCard

/-- THE SECOND FORM's CARD OF 'upshiftkeep.Deep'. -/
def deepUptoCard : Claim7 := { stood := { row := deepUptoRow, standIns := [], harness := (true, "5e7de04c24d65d590b6df8c921357787c531000a273bce56cf3d93dc1f4f5bc6"), looks := true }, kinds := [], alts := [], laidByText := true, laidKinds := [.data], laidTests := true, laidLooks := .later }
def DeepUptoCardSaid : Prop := Claim7.holds Tryz.pinned (.plain (OpenSpec.upto deepSpec)) deepUptoCard

/-- THE SECOND FORM's CARD OF 'upshiftkeep.Apart'. -/
def apartUptoCard : Claim7 := { stood := { row := apartUptoRow, standIns := [], harness := (true, "5e7de04c24d65d590b6df8c921357787c531000a273bce56cf3d93dc1f4f5bc6"), looks := true }, kinds := [], alts := [], laidByText := true, laidKinds := [.data], laidTests := true, laidLooks := .later }
def ApartUptoCardSaid : Prop := Claim7.holds Tryz.pinned (.plain (OpenSpec.upto apartSpec)) apartUptoCard

/-- THE SECOND FORM's CARD OF 'upshiftlaw.All'. -/
def allUptoCard : Claim7 := { stood := { row := allUptoRow, standIns := [], harness := (true, "5e7de04c24d65d590b6df8c921357787c531000a273bce56cf3d93dc1f4f5bc6"), looks := true }, kinds := [], alts := [], laidByText := true, laidKinds := [.data], laidTests := true, laidLooks := .later }
def AllUptoCardSaid : Prop := Claim7.holds Tryz.pinned (.plain (OpenSpec.upto allSpec)) allUptoCard
end Rows
end Go.Proofs.YtkafkipjedpohaaGreatDoor
