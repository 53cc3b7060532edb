/-
  DERIVED. GIVEN WITH THE SEED: THE CARDS: each row of YtphhkfelpckilaaGreatDoorRows.lean that lists a variable, with what it lists TIED to the program's text (the seventh form; the later family's looks); each row that meets fmt, with fmt's text TOLD by the authors' own Lean function (tested against real Go, not proved from fmt's source: count such statements apart). THE CARD IS WHAT COUNTS. Prove the row's statement (the work); the ties are given (YtphhkfelpckilaaGreatDoorTie.lean); close each card by the builder's one call (the guide's Derived/Test/ToyasCard.lean, 'card_holds'). Laid BY PROGRAM, IN A SANDBOX (cutbox-door.mjs). By AI agents, Wed Nov 11 2026. No macro, syntax, notation, axiom, sorry.
-/
import Derived.Test.YtphhkfelpckilaaGreatDoorRows
import GoSem.ClaimSeven
namespace Go.Proofs.YtphhkfelpckilaaGreatDoor
namespace Rows

/-- THE TIED CARD OF 'skewerlaw04.PosMatchesReference'. -/
def posMatchesReferenceCard : Claim7 := { stood := { row := posMatchesReferenceRow, standIns := [], harness := (true, "f6bd36a14d1999a9223262bdd97462454c6028c395aae3202dddf7e2d2570c6a"), looks := true }, kinds := [], alts := [], laidByText := true, laidKinds := [.data, .data, .data, .data, .sentinel, .sentinel, .pinned], laidTests := true, laidLooks := .later }
def PosMatchesReferenceCardSaid : Prop := Claim7.holds Tryz.pinned (.plain (OpenSpec.ofChange posMatchesReferenceSpec)) posMatchesReferenceCard

/-- THE TIED CARD OF 'skewerlaw04.PosOrders'. -/
def posOrdersCard : Claim7 := { stood := { row := posOrdersRow, standIns := [], harness := (true, "f6bd36a14d1999a9223262bdd97462454c6028c395aae3202dddf7e2d2570c6a"), looks := true }, kinds := [], alts := [], laidByText := true, laidKinds := [.data, .data, .data, .data, .sentinel, .sentinel, .pinned], laidTests := true, laidLooks := .later }
def PosOrdersCardSaid : Prop := Claim7.holds Tryz.pinned (.plain (OpenSpec.ofChange posOrdersSpec)) posOrdersCard

/-- THE TIED CARD OF 'skewerlaw04.PosSorts'. -/
def posSortsCard : Claim7 := { stood := { row := posSortsRow, standIns := [], harness := (true, "f6bd36a14d1999a9223262bdd97462454c6028c395aae3202dddf7e2d2570c6a"), looks := true }, kinds := [], alts := [], laidByText := true, laidKinds := [.data, .data, .data, .data, .sentinel, .sentinel, .pinned], laidTests := true, laidLooks := .later }
def PosSortsCardSaid : Prop := Claim7.holds Tryz.pinned (.plain (OpenSpec.ofChange posSortsSpec)) posSortsCard

/-- THE TIED CARD OF 'skewerlaw04.PosFinds'. -/
def posFindsCard : Claim7 := { stood := { row := posFindsRow, standIns := [], harness := (true, "f6bd36a14d1999a9223262bdd97462454c6028c395aae3202dddf7e2d2570c6a"), looks := true }, kinds := [], alts := [], laidByText := true, laidKinds := [.data, .data, .data, .data, .sentinel, .sentinel, .pinned], laidTests := true, laidLooks := .later }
def PosFindsCardSaid : Prop := Claim7.holds Tryz.pinned (.plain (OpenSpec.ofChange posFindsSpec)) posFindsCard

/-- THE TIED CARD OF 'skewerlaw04.PosCounts'. -/
def posCountsCard : Claim7 := { stood := { row := posCountsRow, standIns := [], harness := (true, "f6bd36a14d1999a9223262bdd97462454c6028c395aae3202dddf7e2d2570c6a"), looks := true }, kinds := [], alts := [], laidByText := true, laidKinds := [.data, .data, .data, .data, .sentinel, .sentinel, .pinned], laidTests := true, laidLooks := .later }
def PosCountsCardSaid : Prop := Claim7.holds Tryz.pinned (.plain (OpenSpec.ofChange posCountsSpec)) posCountsCard

/-- THE TIED CARD OF 'skewerlaw04.PosKeys'. -/
def posKeysCard : Claim7 := { stood := { row := posKeysRow, standIns := [], harness := (true, "f6bd36a14d1999a9223262bdd97462454c6028c395aae3202dddf7e2d2570c6a"), looks := true }, kinds := [], alts := [], laidByText := true, laidKinds := [.data, .data, .data, .data, .sentinel, .sentinel, .pinned], laidTests := true, laidLooks := .later }
def PosKeysCardSaid : Prop := Claim7.holds Tryz.pinned (.plain (OpenSpec.ofChange posKeysSpec)) posKeysCard

/-- THE TIED CARD OF 'skewerlaw04.PosTexts'. -/
def posTextsCard : Claim7 := { stood := { row := posTextsRow, standIns := [], harness := (true, "f6bd36a14d1999a9223262bdd97462454c6028c395aae3202dddf7e2d2570c6a"), looks := true }, kinds := [], alts := [], laidByText := true, laidKinds := [.data, .data, .data, .data, .sentinel, .sentinel, .pinned], laidTests := true, laidLooks := .later }
def PosTextsCardSaid : Prop := Claim7.holds Tryz.pinned (.plain (OpenSpec.ofChange posTextsSpec)) posTextsCard

/-- THE TIED CARD OF 'skewerlaw04.PosParses'. -/
def posParsesCard : Claim7 := { stood := { row := posParsesRow, standIns := [], harness := (true, "f6bd36a14d1999a9223262bdd97462454c6028c395aae3202dddf7e2d2570c6a"), looks := true }, kinds := [], alts := [], laidByText := true, laidKinds := [.data, .data, .data, .data, .sentinel, .sentinel, .pinned], laidTests := true, laidLooks := .later }
def PosParsesCardSaid : Prop := Claim7.holds Tryz.pinned (.plain (OpenSpec.ofChange posParsesSpec)) posParsesCard

/-- THE TIED CARD OF 'skewerlaw04.PosLimits'. -/
def posLimitsCard : Claim7 := { stood := { row := posLimitsRow, standIns := [], harness := (true, "f6bd36a14d1999a9223262bdd97462454c6028c395aae3202dddf7e2d2570c6a"), looks := true }, kinds := [], alts := [], laidByText := true, laidKinds := [.data, .data, .data, .data, .sentinel, .sentinel, .pinned], laidTests := true, laidLooks := .later }
def PosLimitsCardSaid : Prop := Claim7.holds Tryz.pinned (.plain (OpenSpec.ofChange posLimitsSpec)) posLimitsCard

/-- THE SECOND FORM's CARD OF 'skewerlaw04.PosMatchesReference'. -/
def posMatchesReferenceUptoCard : Claim7 := { stood := { row := posMatchesReferenceUptoRow, standIns := [], harness := (true, "f6bd36a14d1999a9223262bdd97462454c6028c395aae3202dddf7e2d2570c6a"), looks := true }, kinds := [], alts := [], laidByText := true, laidKinds := [.data, .data, .data, .data, .sentinel, .sentinel, .pinned], laidTests := true, laidLooks := .later }
def PosMatchesReferenceUptoCardSaid : Prop := Claim7.holds Tryz.pinned (.plain (OpenSpec.upto posMatchesReferenceSpec)) posMatchesReferenceUptoCard

/-- THE SECOND FORM's CARD OF 'skewerlaw04.PosOrders'. -/
def posOrdersUptoCard : Claim7 := { stood := { row := posOrdersUptoRow, standIns := [], harness := (true, "f6bd36a14d1999a9223262bdd97462454c6028c395aae3202dddf7e2d2570c6a"), looks := true }, kinds := [], alts := [], laidByText := true, laidKinds := [.data, .data, .data, .data, .sentinel, .sentinel, .pinned], laidTests := true, laidLooks := .later }
def PosOrdersUptoCardSaid : Prop := Claim7.holds Tryz.pinned (.plain (OpenSpec.upto posOrdersSpec)) posOrdersUptoCard

/-- THE SECOND FORM's CARD OF 'skewerlaw04.PosSorts'. -/
def posSortsUptoCard : Claim7 := { stood := { row := posSortsUptoRow, standIns := [], harness := (true, "f6bd36a14d1999a9223262bdd97462454c6028c395aae3202dddf7e2d2570c6a"), looks := true }, kinds := [], alts := [], laidByText := true, laidKinds := [.data, .data, .data, .data, .sentinel, .sentinel, .pinned], laidTests := true, laidLooks := .later }
def PosSortsUptoCardSaid : Prop := Claim7.holds Tryz.pinned (.plain (OpenSpec.upto posSortsSpec)) posSortsUptoCard

/-- THE SECOND FORM's CARD OF 'skewerlaw04.PosFinds'. -/
def posFindsUptoCard : Claim7 := { stood := { row := posFindsUptoRow, standIns := [], harness := (true, "f6bd36a14d1999a9223262bdd97462454c6028c395aae3202dddf7e2d2570c6a"), looks := true }, kinds := [], alts := [], laidByText := true, laidKinds := [.data, .data, .data, .data, .sentinel, .sentinel, .pinned], laidTests := true, laidLooks := .later }
def PosFindsUptoCardSaid : Prop := Claim7.holds Tryz.pinned (.plain (OpenSpec.upto posFindsSpec)) posFindsUptoCard

/-- THE SECOND FORM's CARD OF 'skewerlaw04.PosCounts'. -/
def posCountsUptoCard : Claim7 := { stood := { row := posCountsUptoRow, standIns := [], harness := (true, "f6bd36a14d1999a9223262bdd97462454c6028c395aae3202dddf7e2d2570c6a"), looks := true }, kinds := [], alts := [], laidByText := true, laidKinds := [.data, .data, .data, .data, .sentinel, .sentinel, .pinned], laidTests := true, laidLooks := .later }
def PosCountsUptoCardSaid : Prop := Claim7.holds Tryz.pinned (.plain (OpenSpec.upto posCountsSpec)) posCountsUptoCard

/-- THE SECOND FORM's CARD OF 'skewerlaw04.PosKeys'. -/
def posKeysUptoCard : Claim7 := { stood := { row := posKeysUptoRow, standIns := [], harness := (true, "f6bd36a14d1999a9223262bdd97462454c6028c395aae3202dddf7e2d2570c6a"), looks := true }, kinds := [], alts := [], laidByText := true, laidKinds := [.data, .data, .data, .data, .sentinel, .sentinel, .pinned], laidTests := true, laidLooks := .later }
def PosKeysUptoCardSaid : Prop := Claim7.holds Tryz.pinned (.plain (OpenSpec.upto posKeysSpec)) posKeysUptoCard

/-- THE SECOND FORM's CARD OF 'skewerlaw04.PosTexts'. -/
def posTextsUptoCard : Claim7 := { stood := { row := posTextsUptoRow, standIns := [], harness := (true, "f6bd36a14d1999a9223262bdd97462454c6028c395aae3202dddf7e2d2570c6a"), looks := true }, kinds := [], alts := [], laidByText := true, laidKinds := [.data, .data, .data, .data, .sentinel, .sentinel, .pinned], laidTests := true, laidLooks := .later }
def PosTextsUptoCardSaid : Prop := Claim7.holds Tryz.pinned (.plain (OpenSpec.upto posTextsSpec)) posTextsUptoCard

/-- THE SECOND FORM's CARD OF 'skewerlaw04.PosParses'. -/
def posParsesUptoCard : Claim7 := { stood := { row := posParsesUptoRow, standIns := [], harness := (true, "f6bd36a14d1999a9223262bdd97462454c6028c395aae3202dddf7e2d2570c6a"), looks := true }, kinds := [], alts := [], laidByText := true, laidKinds := [.data, .data, .data, .data, .sentinel, .sentinel, .pinned], laidTests := true, laidLooks := .later }
def PosParsesUptoCardSaid : Prop := Claim7.holds Tryz.pinned (.plain (OpenSpec.upto posParsesSpec)) posParsesUptoCard

/-- THE SECOND FORM's CARD OF 'skewerlaw04.PosLimits'. -/
def posLimitsUptoCard : Claim7 := { stood := { row := posLimitsUptoRow, standIns := [], harness := (true, "f6bd36a14d1999a9223262bdd97462454c6028c395aae3202dddf7e2d2570c6a"), looks := true }, kinds := [], alts := [], laidByText := true, laidKinds := [.data, .data, .data, .data, .sentinel, .sentinel, .pinned], laidTests := true, laidLooks := .later }
def PosLimitsUptoCardSaid : Prop := Claim7.holds Tryz.pinned (.plain (OpenSpec.upto posLimitsSpec)) posLimitsUptoCard
end Rows
end Go.Proofs.YtphhkfelpckilaaGreatDoor
