/-
  DERIVED. GIVEN WITH THE SEED: THE CARDS: each row of YtbmcngoeinginaaGreatDoorRows.lean that lists a variable, with what it lists TIED to the program's text (the seventh form; the later family's looks); each row that meets fmt, with fmt's text TOLD by the authors' own Lean function (tested against real Go, not proved from fmt's source: count such statements apart). THE CARD IS WHAT COUNTS. Prove the row's statement (the work); the ties are given (YtbmcngoeinginaaGreatDoorTie.lean); close each card by the builder's one call (the guide's Derived/Test/ToyasCard.lean, 'card_holds'). Laid BY PROGRAM, IN A SANDBOX (cutbox-door.mjs). By AI agents, Wed Nov 11 2026. No macro, syntax, notation, axiom, sorry.
-/
import Derived.Test.YtbmcngoeinginaaGreatDoorRows
import GoSem.ClaimSeven
namespace Go.Proofs.YtbmcngoeinginaaGreatDoor
namespace Rows

/-- THE TIED CARD OF 'skewerlaw03.GameMatchesReference'. -/
def gameMatchesReferenceCard : Claim7 := { stood := { row := gameMatchesReferenceRow, standIns := [], harness := (true, "bb0e2b916fde6398ed4cf27bfd11e454342b4d2a0c0f73e37ebf8ba973f179d2"), looks := true }, kinds := [], alts := [], laidByText := true, laidKinds := [.data, .data, .data, .data, .sentinel, .sentinel, .data, .data, .pinned], laidTests := true, laidLooks := .later }
def GameMatchesReferenceCardSaid : Prop := Claim7.holds Tryz.pinned (.plain (OpenSpec.ofChange gameMatchesReferenceSpec)) gameMatchesReferenceCard

/-- THE TIED CARD OF 'skewerlaw03.GameValid'. -/
def gameValidCard : Claim7 := { stood := { row := gameValidRow, standIns := [], harness := (true, "bb0e2b916fde6398ed4cf27bfd11e454342b4d2a0c0f73e37ebf8ba973f179d2"), looks := true }, kinds := [], alts := [], laidByText := true, laidKinds := [.data, .data, .data, .data, .sentinel, .sentinel, .data, .data, .pinned], laidTests := true, laidLooks := .later }
def GameValidCardSaid : Prop := Claim7.holds Tryz.pinned (.plain (OpenSpec.ofChange gameValidSpec)) gameValidCard

/-- THE TIED CARD OF 'skewerlaw03.GameTexts'. -/
def gameTextsCard : Claim7 := { stood := { row := gameTextsRow, standIns := [], harness := (true, "bb0e2b916fde6398ed4cf27bfd11e454342b4d2a0c0f73e37ebf8ba973f179d2"), looks := true }, kinds := [], alts := [], laidByText := true, laidKinds := [.data, .data, .data, .data, .sentinel, .sentinel, .data, .data, .pinned], laidTests := true, laidLooks := .later }
def GameTextsCardSaid : Prop := Claim7.holds Tryz.pinned (.plain (OpenSpec.ofChange gameTextsSpec)) gameTextsCard

/-- THE TIED CARD OF 'skewerlaw03.GameContents'. -/
def gameContentsCard : Claim7 := { stood := { row := gameContentsRow, standIns := [], harness := (true, "bb0e2b916fde6398ed4cf27bfd11e454342b4d2a0c0f73e37ebf8ba973f179d2"), looks := true }, kinds := [], alts := [], laidByText := true, laidKinds := [.data, .data, .data, .data, .sentinel, .sentinel, .data, .data, .pinned], laidTests := true, laidLooks := .later }
def GameContentsCardSaid : Prop := Claim7.holds Tryz.pinned (.plain (OpenSpec.ofChange gameContentsSpec)) gameContentsCard

/-- THE TIED CARD OF 'skewerlaw03.GameNames'. -/
def gameNamesCard : Claim7 := { stood := { row := gameNamesRow, standIns := [], harness := (true, "bb0e2b916fde6398ed4cf27bfd11e454342b4d2a0c0f73e37ebf8ba973f179d2"), looks := true }, kinds := [], alts := [], laidByText := true, laidKinds := [.data, .data, .data, .data, .sentinel, .sentinel, .data, .data, .pinned], laidTests := true, laidLooks := .later }
def GameNamesCardSaid : Prop := Claim7.holds Tryz.pinned (.plain (OpenSpec.ofChange gameNamesSpec)) gameNamesCard

/-- THE TIED CARD OF 'skewerlaw03.GameParts'. -/
def gamePartsCard : Claim7 := { stood := { row := gamePartsRow, standIns := [], harness := (true, "bb0e2b916fde6398ed4cf27bfd11e454342b4d2a0c0f73e37ebf8ba973f179d2"), looks := true }, kinds := [], alts := [], laidByText := true, laidKinds := [.data, .data, .data, .data, .sentinel, .sentinel, .data, .data, .pinned], laidTests := true, laidLooks := .later }
def GamePartsCardSaid : Prop := Claim7.holds Tryz.pinned (.plain (OpenSpec.ofChange gamePartsSpec)) gamePartsCard

/-- THE TIED CARD OF 'skewerlaw03.GameLines'. -/
def gameLinesCard : Claim7 := { stood := { row := gameLinesRow, standIns := [], harness := (true, "bb0e2b916fde6398ed4cf27bfd11e454342b4d2a0c0f73e37ebf8ba973f179d2"), looks := true }, kinds := [], alts := [], laidByText := true, laidKinds := [.data, .data, .data, .data, .sentinel, .sentinel, .data, .data, .pinned], laidTests := true, laidLooks := .later }
def GameLinesCardSaid : Prop := Claim7.holds Tryz.pinned (.plain (OpenSpec.ofChange gameLinesSpec)) gameLinesCard

/-- THE SECOND FORM's CARD OF 'skewerlaw03.GameMatchesReference'. -/
def gameMatchesReferenceUptoCard : Claim7 := { stood := { row := gameMatchesReferenceUptoRow, standIns := [], harness := (true, "bb0e2b916fde6398ed4cf27bfd11e454342b4d2a0c0f73e37ebf8ba973f179d2"), looks := true }, kinds := [], alts := [], laidByText := true, laidKinds := [.data, .data, .data, .data, .sentinel, .sentinel, .data, .data, .pinned], laidTests := true, laidLooks := .later }
def GameMatchesReferenceUptoCardSaid : Prop := Claim7.holds Tryz.pinned (.plain (OpenSpec.upto gameMatchesReferenceSpec)) gameMatchesReferenceUptoCard

/-- THE SECOND FORM's CARD OF 'skewerlaw03.GameValid'. -/
def gameValidUptoCard : Claim7 := { stood := { row := gameValidUptoRow, standIns := [], harness := (true, "bb0e2b916fde6398ed4cf27bfd11e454342b4d2a0c0f73e37ebf8ba973f179d2"), looks := true }, kinds := [], alts := [], laidByText := true, laidKinds := [.data, .data, .data, .data, .sentinel, .sentinel, .data, .data, .pinned], laidTests := true, laidLooks := .later }
def GameValidUptoCardSaid : Prop := Claim7.holds Tryz.pinned (.plain (OpenSpec.upto gameValidSpec)) gameValidUptoCard

/-- THE SECOND FORM's CARD OF 'skewerlaw03.GameTexts'. -/
def gameTextsUptoCard : Claim7 := { stood := { row := gameTextsUptoRow, standIns := [], harness := (true, "bb0e2b916fde6398ed4cf27bfd11e454342b4d2a0c0f73e37ebf8ba973f179d2"), looks := true }, kinds := [], alts := [], laidByText := true, laidKinds := [.data, .data, .data, .data, .sentinel, .sentinel, .data, .data, .pinned], laidTests := true, laidLooks := .later }
def GameTextsUptoCardSaid : Prop := Claim7.holds Tryz.pinned (.plain (OpenSpec.upto gameTextsSpec)) gameTextsUptoCard

/-- THE SECOND FORM's CARD OF 'skewerlaw03.GameContents'. -/
def gameContentsUptoCard : Claim7 := { stood := { row := gameContentsUptoRow, standIns := [], harness := (true, "bb0e2b916fde6398ed4cf27bfd11e454342b4d2a0c0f73e37ebf8ba973f179d2"), looks := true }, kinds := [], alts := [], laidByText := true, laidKinds := [.data, .data, .data, .data, .sentinel, .sentinel, .data, .data, .pinned], laidTests := true, laidLooks := .later }
def GameContentsUptoCardSaid : Prop := Claim7.holds Tryz.pinned (.plain (OpenSpec.upto gameContentsSpec)) gameContentsUptoCard

/-- THE SECOND FORM's CARD OF 'skewerlaw03.GameNames'. -/
def gameNamesUptoCard : Claim7 := { stood := { row := gameNamesUptoRow, standIns := [], harness := (true, "bb0e2b916fde6398ed4cf27bfd11e454342b4d2a0c0f73e37ebf8ba973f179d2"), looks := true }, kinds := [], alts := [], laidByText := true, laidKinds := [.data, .data, .data, .data, .sentinel, .sentinel, .data, .data, .pinned], laidTests := true, laidLooks := .later }
def GameNamesUptoCardSaid : Prop := Claim7.holds Tryz.pinned (.plain (OpenSpec.upto gameNamesSpec)) gameNamesUptoCard

/-- THE SECOND FORM's CARD OF 'skewerlaw03.GameParts'. -/
def gamePartsUptoCard : Claim7 := { stood := { row := gamePartsUptoRow, standIns := [], harness := (true, "bb0e2b916fde6398ed4cf27bfd11e454342b4d2a0c0f73e37ebf8ba973f179d2"), looks := true }, kinds := [], alts := [], laidByText := true, laidKinds := [.data, .data, .data, .data, .sentinel, .sentinel, .data, .data, .pinned], laidTests := true, laidLooks := .later }
def GamePartsUptoCardSaid : Prop := Claim7.holds Tryz.pinned (.plain (OpenSpec.upto gamePartsSpec)) gamePartsUptoCard

/-- THE SECOND FORM's CARD OF 'skewerlaw03.GameLines'. -/
def gameLinesUptoCard : Claim7 := { stood := { row := gameLinesUptoRow, standIns := [], harness := (true, "bb0e2b916fde6398ed4cf27bfd11e454342b4d2a0c0f73e37ebf8ba973f179d2"), looks := true }, kinds := [], alts := [], laidByText := true, laidKinds := [.data, .data, .data, .data, .sentinel, .sentinel, .data, .data, .pinned], laidTests := true, laidLooks := .later }
def GameLinesUptoCardSaid : Prop := Claim7.holds Tryz.pinned (.plain (OpenSpec.upto gameLinesSpec)) gameLinesUptoCard
end Rows
end Go.Proofs.YtbmcngoeinginaaGreatDoor
