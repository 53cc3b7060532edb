/-
  DERIVED. GIVEN WITH THE SEED: THE CARDS: each row of YtidgdfjnjgonoaaGreatDoorRows.lean that lists a variable, with what it lists TIED to the program's text (the seventh form; the later family's looks); each row that meets fmt, with fmt's text TOLD by the authors' own Lean function (tested against real Go, not proved from fmt's source: count such statements apart). THE CARD IS WHAT COUNTS. Prove the row's statement (the work); the ties are given (YtidgdfjnjgonoaaGreatDoorTie.lean); close each card by the builder's one call (the guide's Derived/Test/ToyasCard.lean, 'card_holds'). Laid BY PROGRAM, IN A SANDBOX (cutbox-door.mjs). By AI agents, Wed Nov 11 2026. No macro, syntax, notation, axiom, sorry.
-/
import Derived.Test.YtidgdfjnjgonoaaGreatDoorRows
import GoSem.ClaimSeven
namespace Go.Proofs.YtidgdfjnjgonoaaGreatDoor
namespace Rows

/-- THE TIED CARD OF 'skewerlaw02.ProgMatchesReference'. -/
def progMatchesReferenceCard : Claim7 := { stood := { row := progMatchesReferenceRow, standIns := [], harness := (true, "8688ac4fa23087e794f93898c6895cc37525a6a5f87c78773d64cd588e2f15b5"), looks := true }, kinds := [], alts := [], laidByText := true, laidKinds := [.data, .data, .data, .data, .sentinel, .sentinel, .data, .pinned], laidTests := true, laidLooks := .later }
def ProgMatchesReferenceCardSaid : Prop := Claim7.holds Tryz.pinned (.plain (OpenSpec.ofChange progMatchesReferenceSpec)) progMatchesReferenceCard

/-- THE TIED CARD OF 'skewerlaw02.ProgTexts'. -/
def progTextsCard : Claim7 := { stood := { row := progTextsRow, standIns := [], harness := (true, "8688ac4fa23087e794f93898c6895cc37525a6a5f87c78773d64cd588e2f15b5"), looks := true }, kinds := [], alts := [], laidByText := true, laidKinds := [.data, .data, .data, .data, .sentinel, .sentinel, .data, .pinned], laidTests := true, laidLooks := .later }
def ProgTextsCardSaid : Prop := Claim7.holds Tryz.pinned (.plain (OpenSpec.ofChange progTextsSpec)) progTextsCard

/-- THE TIED CARD OF 'skewerlaw02.ProgParses'. -/
def progParsesCard : Claim7 := { stood := { row := progParsesRow, standIns := [], harness := (true, "8688ac4fa23087e794f93898c6895cc37525a6a5f87c78773d64cd588e2f15b5"), looks := true }, kinds := [], alts := [], laidByText := true, laidKinds := [.data, .data, .data, .data, .sentinel, .sentinel, .data, .pinned], laidTests := true, laidLooks := .later }
def ProgParsesCardSaid : Prop := Claim7.holds Tryz.pinned (.plain (OpenSpec.ofChange progParsesSpec)) progParsesCard

/-- THE TIED CARD OF 'skewerlaw02.ProgTurns'. -/
def progTurnsCard : Claim7 := { stood := { row := progTurnsRow, standIns := [], harness := (true, "8688ac4fa23087e794f93898c6895cc37525a6a5f87c78773d64cd588e2f15b5"), looks := true }, kinds := [], alts := [], laidByText := true, laidKinds := [.data, .data, .data, .data, .sentinel, .sentinel, .data, .pinned], laidTests := true, laidLooks := .later }
def ProgTurnsCardSaid : Prop := Claim7.holds Tryz.pinned (.plain (OpenSpec.ofChange progTurnsSpec)) progTurnsCard

/-- THE TIED CARD OF 'skewerlaw02.ProgMore'. -/
def progMoreCard : Claim7 := { stood := { row := progMoreRow, standIns := [], harness := (true, "8688ac4fa23087e794f93898c6895cc37525a6a5f87c78773d64cd588e2f15b5"), looks := true }, kinds := [], alts := [], laidByText := true, laidKinds := [.data, .data, .data, .data, .sentinel, .sentinel, .data, .pinned], laidTests := true, laidLooks := .later }
def ProgMoreCardSaid : Prop := Claim7.holds Tryz.pinned (.plain (OpenSpec.ofChange progMoreSpec)) progMoreCard

/-- THE TIED CARD OF 'skewerlaw02.ProgLimits'. -/
def progLimitsCard : Claim7 := { stood := { row := progLimitsRow, standIns := [], harness := (true, "8688ac4fa23087e794f93898c6895cc37525a6a5f87c78773d64cd588e2f15b5"), looks := true }, kinds := [], alts := [], laidByText := true, laidKinds := [.data, .data, .data, .data, .sentinel, .sentinel, .data, .pinned], laidTests := true, laidLooks := .later }
def ProgLimitsCardSaid : Prop := Claim7.holds Tryz.pinned (.plain (OpenSpec.ofChange progLimitsSpec)) progLimitsCard

/-- THE TIED CARD OF 'skewerlaw02.ProgSteps'. -/
def progStepsCard : Claim7 := { stood := { row := progStepsRow, standIns := [], harness := (true, "8688ac4fa23087e794f93898c6895cc37525a6a5f87c78773d64cd588e2f15b5"), looks := true }, kinds := [], alts := [], laidByText := true, laidKinds := [.data, .data, .data, .data, .sentinel, .sentinel, .data, .pinned], laidTests := true, laidLooks := .later }
def ProgStepsCardSaid : Prop := Claim7.holds Tryz.pinned (.plain (OpenSpec.ofChange progStepsSpec)) progStepsCard

/-- THE SECOND FORM's CARD OF 'skewerlaw02.ProgMatchesReference'. -/
def progMatchesReferenceUptoCard : Claim7 := { stood := { row := progMatchesReferenceUptoRow, standIns := [], harness := (true, "8688ac4fa23087e794f93898c6895cc37525a6a5f87c78773d64cd588e2f15b5"), looks := true }, kinds := [], alts := [], laidByText := true, laidKinds := [.data, .data, .data, .data, .sentinel, .sentinel, .data, .pinned], laidTests := true, laidLooks := .later }
def ProgMatchesReferenceUptoCardSaid : Prop := Claim7.holds Tryz.pinned (.plain (OpenSpec.upto progMatchesReferenceSpec)) progMatchesReferenceUptoCard

/-- THE SECOND FORM's CARD OF 'skewerlaw02.ProgTexts'. -/
def progTextsUptoCard : Claim7 := { stood := { row := progTextsUptoRow, standIns := [], harness := (true, "8688ac4fa23087e794f93898c6895cc37525a6a5f87c78773d64cd588e2f15b5"), looks := true }, kinds := [], alts := [], laidByText := true, laidKinds := [.data, .data, .data, .data, .sentinel, .sentinel, .data, .pinned], laidTests := true, laidLooks := .later }
def ProgTextsUptoCardSaid : Prop := Claim7.holds Tryz.pinned (.plain (OpenSpec.upto progTextsSpec)) progTextsUptoCard

/-- THE SECOND FORM's CARD OF 'skewerlaw02.ProgParses'. -/
def progParsesUptoCard : Claim7 := { stood := { row := progParsesUptoRow, standIns := [], harness := (true, "8688ac4fa23087e794f93898c6895cc37525a6a5f87c78773d64cd588e2f15b5"), looks := true }, kinds := [], alts := [], laidByText := true, laidKinds := [.data, .data, .data, .data, .sentinel, .sentinel, .data, .pinned], laidTests := true, laidLooks := .later }
def ProgParsesUptoCardSaid : Prop := Claim7.holds Tryz.pinned (.plain (OpenSpec.upto progParsesSpec)) progParsesUptoCard

/-- THE SECOND FORM's CARD OF 'skewerlaw02.ProgTurns'. -/
def progTurnsUptoCard : Claim7 := { stood := { row := progTurnsUptoRow, standIns := [], harness := (true, "8688ac4fa23087e794f93898c6895cc37525a6a5f87c78773d64cd588e2f15b5"), looks := true }, kinds := [], alts := [], laidByText := true, laidKinds := [.data, .data, .data, .data, .sentinel, .sentinel, .data, .pinned], laidTests := true, laidLooks := .later }
def ProgTurnsUptoCardSaid : Prop := Claim7.holds Tryz.pinned (.plain (OpenSpec.upto progTurnsSpec)) progTurnsUptoCard

/-- THE SECOND FORM's CARD OF 'skewerlaw02.ProgMore'. -/
def progMoreUptoCard : Claim7 := { stood := { row := progMoreUptoRow, standIns := [], harness := (true, "8688ac4fa23087e794f93898c6895cc37525a6a5f87c78773d64cd588e2f15b5"), looks := true }, kinds := [], alts := [], laidByText := true, laidKinds := [.data, .data, .data, .data, .sentinel, .sentinel, .data, .pinned], laidTests := true, laidLooks := .later }
def ProgMoreUptoCardSaid : Prop := Claim7.holds Tryz.pinned (.plain (OpenSpec.upto progMoreSpec)) progMoreUptoCard

/-- THE SECOND FORM's CARD OF 'skewerlaw02.ProgLimits'. -/
def progLimitsUptoCard : Claim7 := { stood := { row := progLimitsUptoRow, standIns := [], harness := (true, "8688ac4fa23087e794f93898c6895cc37525a6a5f87c78773d64cd588e2f15b5"), looks := true }, kinds := [], alts := [], laidByText := true, laidKinds := [.data, .data, .data, .data, .sentinel, .sentinel, .data, .pinned], laidTests := true, laidLooks := .later }
def ProgLimitsUptoCardSaid : Prop := Claim7.holds Tryz.pinned (.plain (OpenSpec.upto progLimitsSpec)) progLimitsUptoCard

/-- THE SECOND FORM's CARD OF 'skewerlaw02.ProgSteps'. -/
def progStepsUptoCard : Claim7 := { stood := { row := progStepsUptoRow, standIns := [], harness := (true, "8688ac4fa23087e794f93898c6895cc37525a6a5f87c78773d64cd588e2f15b5"), looks := true }, kinds := [], alts := [], laidByText := true, laidKinds := [.data, .data, .data, .data, .sentinel, .sentinel, .data, .pinned], laidTests := true, laidLooks := .later }
def ProgStepsUptoCardSaid : Prop := Claim7.holds Tryz.pinned (.plain (OpenSpec.upto progStepsSpec)) progStepsUptoCard
end Rows
end Go.Proofs.YtidgdfjnjgonoaaGreatDoor
