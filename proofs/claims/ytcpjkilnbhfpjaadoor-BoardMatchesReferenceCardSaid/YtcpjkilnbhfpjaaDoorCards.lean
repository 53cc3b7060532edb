/-
  DERIVED. GIVEN WITH THE SEED: THE CARDS: each row of YtcpjkilnbhfpjaaDoorRows.lean that lists a variable, with what it lists TIED to the program's text (the seventh form; the later family's looks); each row that meets fmt, with fmt's text TOLD by the authors' own Lean function (tested against real Go, not proved from fmt's source: count such statements apart). THE CARD IS WHAT COUNTS. Prove the row's statement (the work); the ties are given (YtcpjkilnbhfpjaaDoorTie.lean); close each card by the builder's one call (the guide's Derived/Test/ToyasCard.lean, 'card_holds'). Laid BY PROGRAM, IN A SANDBOX (cutbox-door.mjs). By AI agents, Wed Nov 11 2026. No macro, syntax, notation, axiom, sorry.
-/
import Derived.Test.YtcpjkilnbhfpjaaDoorRows
import GoSem.ClaimSeven
namespace Go.Proofs.YtcpjkilnbhfpjaaDoor
namespace Rows

/-- THE TIED CARD OF 'skewerlaw01.BoardMatchesReference'. -/
def boardMatchesReferenceCard : Claim7 := { stood := { row := boardMatchesReferenceRow, standIns := [], harness := (true, "18fa6f56346da71c5a25efff5175e0be6a0e32ccf72e8117af509c86aef2142e"), looks := false }, kinds := [], alts := [], laidByText := true, laidKinds := [.data], laidTests := true, laidLooks := .later }
def BoardMatchesReferenceCardSaid : Prop := Claim7.holds Tryd.pinned (.plain (OpenSpec.ofChange boardMatchesReferenceSpec)) boardMatchesReferenceCard

/-- THE TIED CARD OF 'skewerlaw01.BoardValid'. -/
def boardValidCard : Claim7 := { stood := { row := boardValidRow, standIns := [], harness := (true, "18fa6f56346da71c5a25efff5175e0be6a0e32ccf72e8117af509c86aef2142e"), looks := false }, kinds := [], alts := [], laidByText := true, laidKinds := [.data], laidTests := true, laidLooks := .later }
def BoardValidCardSaid : Prop := Claim7.holds Tryd.pinned (.plain (OpenSpec.ofChange boardValidSpec)) boardValidCard

/-- THE TIED CARD OF 'skewerlaw01.BoardSides'. -/
def boardSidesCard : Claim7 := { stood := { row := boardSidesRow, standIns := [], harness := (true, "18fa6f56346da71c5a25efff5175e0be6a0e32ccf72e8117af509c86aef2142e"), looks := false }, kinds := [], alts := [], laidByText := true, laidKinds := [.data], laidTests := true, laidLooks := .later }
def BoardSidesCardSaid : Prop := Claim7.holds Tryd.pinned (.plain (OpenSpec.ofChange boardSidesSpec)) boardSidesCard

/-- THE TIED CARD OF 'skewerlaw01.BoardLines'. -/
def boardLinesCard : Claim7 := { stood := { row := boardLinesRow, standIns := [], harness := (true, "18fa6f56346da71c5a25efff5175e0be6a0e32ccf72e8117af509c86aef2142e"), looks := false }, kinds := [], alts := [], laidByText := true, laidKinds := [.data], laidTests := true, laidLooks := .later }
def BoardLinesCardSaid : Prop := Claim7.holds Tryd.pinned (.plain (OpenSpec.ofChange boardLinesSpec)) boardLinesCard

/-- THE TIED CARD OF 'skewerlaw01.BoardFar'. -/
def boardFarCard : Claim7 := { stood := { row := boardFarRow, standIns := [], harness := (true, "18fa6f56346da71c5a25efff5175e0be6a0e32ccf72e8117af509c86aef2142e"), looks := false }, kinds := [], alts := [], laidByText := true, laidKinds := [.data], laidTests := true, laidLooks := .later }
def BoardFarCardSaid : Prop := Claim7.holds Tryd.pinned (.plain (OpenSpec.ofChange boardFarSpec)) boardFarCard

/-- THE TIED CARD OF 'skewerlaw01.BoardParts'. -/
def boardPartsCard : Claim7 := { stood := { row := boardPartsRow, standIns := [], harness := (true, "18fa6f56346da71c5a25efff5175e0be6a0e32ccf72e8117af509c86aef2142e"), looks := false }, kinds := [], alts := [], laidByText := true, laidKinds := [.data], laidTests := true, laidLooks := .later }
def BoardPartsCardSaid : Prop := Claim7.holds Tryd.pinned (.plain (OpenSpec.ofChange boardPartsSpec)) boardPartsCard

/-- THE TIED CARD OF 'skewerlaw01.BoardGrids'. -/
def boardGridsCard : Claim7 := { stood := { row := boardGridsRow, standIns := [], harness := (true, "18fa6f56346da71c5a25efff5175e0be6a0e32ccf72e8117af509c86aef2142e"), looks := false }, kinds := [], alts := [], laidByText := true, laidKinds := [.data], laidTests := true, laidLooks := .later }
def BoardGridsCardSaid : Prop := Claim7.holds Tryd.pinned (.plain (OpenSpec.ofChange boardGridsSpec)) boardGridsCard

/-- THE TIED CARD OF 'skewerlaw01.BoardWithout'. -/
def boardWithoutCard : Claim7 := { stood := { row := boardWithoutRow, standIns := [], harness := (true, "18fa6f56346da71c5a25efff5175e0be6a0e32ccf72e8117af509c86aef2142e"), looks := false }, kinds := [], alts := [], laidByText := true, laidKinds := [.data], laidTests := true, laidLooks := .later }
def BoardWithoutCardSaid : Prop := Claim7.holds Tryd.pinned (.plain (OpenSpec.ofChange boardWithoutSpec)) boardWithoutCard

/-- THE SECOND FORM's CARD OF 'skewerlaw01.BoardMatchesReference'. -/
def boardMatchesReferenceUptoCard : Claim7 := { stood := { row := boardMatchesReferenceUptoRow, standIns := [], harness := (true, "18fa6f56346da71c5a25efff5175e0be6a0e32ccf72e8117af509c86aef2142e"), looks := false }, kinds := [], alts := [], laidByText := true, laidKinds := [.data], laidTests := true, laidLooks := .later }
def BoardMatchesReferenceUptoCardSaid : Prop := Claim7.holds Tryd.pinned (.plain (OpenSpec.upto boardMatchesReferenceSpec)) boardMatchesReferenceUptoCard

/-- THE SECOND FORM's CARD OF 'skewerlaw01.BoardValid'. -/
def boardValidUptoCard : Claim7 := { stood := { row := boardValidUptoRow, standIns := [], harness := (true, "18fa6f56346da71c5a25efff5175e0be6a0e32ccf72e8117af509c86aef2142e"), looks := false }, kinds := [], alts := [], laidByText := true, laidKinds := [.data], laidTests := true, laidLooks := .later }
def BoardValidUptoCardSaid : Prop := Claim7.holds Tryd.pinned (.plain (OpenSpec.upto boardValidSpec)) boardValidUptoCard

/-- THE SECOND FORM's CARD OF 'skewerlaw01.BoardSides'. -/
def boardSidesUptoCard : Claim7 := { stood := { row := boardSidesUptoRow, standIns := [], harness := (true, "18fa6f56346da71c5a25efff5175e0be6a0e32ccf72e8117af509c86aef2142e"), looks := false }, kinds := [], alts := [], laidByText := true, laidKinds := [.data], laidTests := true, laidLooks := .later }
def BoardSidesUptoCardSaid : Prop := Claim7.holds Tryd.pinned (.plain (OpenSpec.upto boardSidesSpec)) boardSidesUptoCard

/-- THE SECOND FORM's CARD OF 'skewerlaw01.BoardLines'. -/
def boardLinesUptoCard : Claim7 := { stood := { row := boardLinesUptoRow, standIns := [], harness := (true, "18fa6f56346da71c5a25efff5175e0be6a0e32ccf72e8117af509c86aef2142e"), looks := false }, kinds := [], alts := [], laidByText := true, laidKinds := [.data], laidTests := true, laidLooks := .later }
def BoardLinesUptoCardSaid : Prop := Claim7.holds Tryd.pinned (.plain (OpenSpec.upto boardLinesSpec)) boardLinesUptoCard

/-- THE SECOND FORM's CARD OF 'skewerlaw01.BoardFar'. -/
def boardFarUptoCard : Claim7 := { stood := { row := boardFarUptoRow, standIns := [], harness := (true, "18fa6f56346da71c5a25efff5175e0be6a0e32ccf72e8117af509c86aef2142e"), looks := false }, kinds := [], alts := [], laidByText := true, laidKinds := [.data], laidTests := true, laidLooks := .later }
def BoardFarUptoCardSaid : Prop := Claim7.holds Tryd.pinned (.plain (OpenSpec.upto boardFarSpec)) boardFarUptoCard

/-- THE SECOND FORM's CARD OF 'skewerlaw01.BoardParts'. -/
def boardPartsUptoCard : Claim7 := { stood := { row := boardPartsUptoRow, standIns := [], harness := (true, "18fa6f56346da71c5a25efff5175e0be6a0e32ccf72e8117af509c86aef2142e"), looks := false }, kinds := [], alts := [], laidByText := true, laidKinds := [.data], laidTests := true, laidLooks := .later }
def BoardPartsUptoCardSaid : Prop := Claim7.holds Tryd.pinned (.plain (OpenSpec.upto boardPartsSpec)) boardPartsUptoCard

/-- THE SECOND FORM's CARD OF 'skewerlaw01.BoardGrids'. -/
def boardGridsUptoCard : Claim7 := { stood := { row := boardGridsUptoRow, standIns := [], harness := (true, "18fa6f56346da71c5a25efff5175e0be6a0e32ccf72e8117af509c86aef2142e"), looks := false }, kinds := [], alts := [], laidByText := true, laidKinds := [.data], laidTests := true, laidLooks := .later }
def BoardGridsUptoCardSaid : Prop := Claim7.holds Tryd.pinned (.plain (OpenSpec.upto boardGridsSpec)) boardGridsUptoCard

/-- THE SECOND FORM's CARD OF 'skewerlaw01.BoardWithout'. -/
def boardWithoutUptoCard : Claim7 := { stood := { row := boardWithoutUptoRow, standIns := [], harness := (true, "18fa6f56346da71c5a25efff5175e0be6a0e32ccf72e8117af509c86aef2142e"), looks := false }, kinds := [], alts := [], laidByText := true, laidKinds := [.data], laidTests := true, laidLooks := .later }
def BoardWithoutUptoCardSaid : Prop := Claim7.holds Tryd.pinned (.plain (OpenSpec.upto boardWithoutSpec)) boardWithoutUptoCard
end Rows
end Go.Proofs.YtcpjkilnbhfpjaaDoor
