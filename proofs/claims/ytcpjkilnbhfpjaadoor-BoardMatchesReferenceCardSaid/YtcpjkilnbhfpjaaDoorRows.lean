/-
  NARROWER THAN 'FOR EVERY INPUT', by the rows' own cells (each row's printed sentence says how): BoardMatchesReference: laid · BoardValid: laid · BoardSides: laid · BoardLines: laid · BoardFar: laid · BoardParts: laid · BoardGrids: laid · BoardWithout: laid.
  DERIVED. THE GIVEN ROWS OF THIS SEAT. 8 by the template 'for every input the law returns true; each argument reads behind the call as it read before'; 0 by the template 'total and deterministic' (their statements: YtcpjkilnbhfpjaaDoorTotals.lean).
  GIVEN WITH THE SEED: the statements are not yours to turn. If you find one false, say at which input.
  Laid BY PROGRAM, IN A SANDBOX (cutbox-rows.mjs): the forced cells as the released guide's own fill.sh prints them over the translation a45d810f30a5055b… (all of the seat's roots in one cut). By AI agents, Wed Nov 11 2026. No macro, syntax, notation, axiom, sorry.
-/
import Derived.Test.YtcpjkilnbhfpjaaDoorChecked
import GoSem.Claim
import GoSem.ClaimJoined
import GoSem.ClaimMapViews
import Derived.JoinedTies
import Derived.KernelRfl
namespace Go.Proofs.YtcpjkilnbhfpjaaDoor
/- THE CELL 'sum', in the pinned program and in every row, IS THE sha256 OF THE DUMP (.gsa) THAT YtcpjkilnbhfpjaaDoorProg.lean LOADS. Nothing in Lean hashes anything: it is a label: what it is worth is what the hold of that sum in a sandbox is worth. -/
noncomputable def Tryd.pinned : Pinned := { name := "ytcpjkilnbhfpjaadoor", sum := "a45d810f30a5055bc88bc07da4551862df13614b4d490c7c835a70e2109907cc", checked := Tryd.checked }
namespace Rows
def none {H : Type} : Left H := { results := [], args := [] }

/- WHAT THE LISTED PACKAGE-LEVEL VARIABLES READ AS WHEN THE CALL BEGINS. Each datum BY PROGRAM (the guide's laid-datum.mjs) off the statement by which the dump's own 'gosem.cut.vars' lays the variable. In a bare row this is a premise. The card (YtcpjkilnbhfpjaaDoorCards.lean) ties it to the program's text. -/
def laid_skewer_board_rays {H : Type} : DataW H := .agg [.agg [.lit (.int .i64 0), .lit (.int .i64 (-1))], .agg [.lit (.int .i64 1), .lit (.int .i64 (-1))], .agg [.lit (.int .i64 1), .lit (.int .i64 0)], .agg [.lit (.int .i64 1), .lit (.int .i64 1)], .agg [.lit (.int .i64 0), .lit (.int .i64 1)], .agg [.lit (.int .i64 (-1)), .lit (.int .i64 1)], .agg [.lit (.int .i64 (-1)), .lit (.int .i64 0)], .agg [.lit (.int .i64 (-1)), .lit (.int .i64 (-1))]]

/-- 'skewerlaw01.BoardMatchesReference': WHATEVER THE INPUT: true; the input reads as it did. -/
def boardMatchesReferenceSpec : ChangeSpec := { name := "boardMatchesReference", fn := fun _ => fun
  | [d1, d2] => { results := [.lit (.bool true)], args := [d1, d2] }
  | _ => none }
def boardMatchesReferenceRow : OpenClaim := { program := "ytcpjkilnbhfpjaadoor", sum := "a45d810f30a5055bc88bc07da4551862df13614b4d490c7c835a70e2109907cc", func := "skewer/skewerlaw01.BoardMatchesReference", spec := "boardMatchesReference", unfollowed := true, recurses := true, named := ["skewer/board.rays"], apart := false, laid := [("skewer/board.rays", laid_skewer_board_rays)] }
def BoardMatchesReferenceSaid : Prop := boardMatchesReferenceRow.holds Tryd.pinned (OpenSpec.ofChange boardMatchesReferenceSpec)

/-- ITS FALSE NEIGHBOUR: 'it returns false'. Refute it at one input. -/
def boardMatchesReferenceWrong : ChangeSpec := { name := "boardMatchesReference", fn := fun _ => fun
  | [d1, d2] => { results := [.lit (.bool false)], args := [d1, d2] }
  | _ => none }
def BoardMatchesReferenceWrongFalsely : Prop := boardMatchesReferenceRow.holds Tryd.pinned (OpenSpec.ofChange boardMatchesReferenceWrong)

/-- 'skewerlaw01.BoardValid': WHATEVER THE INPUT: true; the input reads as it did. -/
def boardValidSpec : ChangeSpec := { name := "boardValid", fn := fun _ => fun
  | [d1, d2, d3] => { results := [.lit (.bool true)], args := [d1, d2, d3] }
  | _ => none }
def boardValidRow : OpenClaim := { program := "ytcpjkilnbhfpjaadoor", sum := "a45d810f30a5055bc88bc07da4551862df13614b4d490c7c835a70e2109907cc", func := "skewer/skewerlaw01.BoardValid", spec := "boardValid", unfollowed := true, recurses := true, named := ["skewer/board.rays"], apart := false, laid := [("skewer/board.rays", laid_skewer_board_rays)] }
def BoardValidSaid : Prop := boardValidRow.holds Tryd.pinned (OpenSpec.ofChange boardValidSpec)

/-- ITS FALSE NEIGHBOUR: 'it returns false'. Refute it at one input. -/
def boardValidWrong : ChangeSpec := { name := "boardValid", fn := fun _ => fun
  | [d1, d2, d3] => { results := [.lit (.bool false)], args := [d1, d2, d3] }
  | _ => none }
def BoardValidWrongFalsely : Prop := boardValidRow.holds Tryd.pinned (OpenSpec.ofChange boardValidWrong)

/-- 'skewerlaw01.BoardSides': WHATEVER THE INPUT: true; the input reads as it did. -/
def boardSidesSpec : ChangeSpec := { name := "boardSides", fn := fun _ => fun
  | [d1, d2] => { results := [.lit (.bool true)], args := [d1, d2] }
  | _ => none }
def boardSidesRow : OpenClaim := { program := "ytcpjkilnbhfpjaadoor", sum := "a45d810f30a5055bc88bc07da4551862df13614b4d490c7c835a70e2109907cc", func := "skewer/skewerlaw01.BoardSides", spec := "boardSides", unfollowed := true, recurses := true, named := ["skewer/board.rays"], apart := false, laid := [("skewer/board.rays", laid_skewer_board_rays)] }
def BoardSidesSaid : Prop := boardSidesRow.holds Tryd.pinned (OpenSpec.ofChange boardSidesSpec)

/-- ITS FALSE NEIGHBOUR: 'it returns false'. Refute it at one input. -/
def boardSidesWrong : ChangeSpec := { name := "boardSides", fn := fun _ => fun
  | [d1, d2] => { results := [.lit (.bool false)], args := [d1, d2] }
  | _ => none }
def BoardSidesWrongFalsely : Prop := boardSidesRow.holds Tryd.pinned (OpenSpec.ofChange boardSidesWrong)

/-- 'skewerlaw01.BoardLines': WHATEVER THE INPUT: true; the input reads as it did. -/
def boardLinesSpec : ChangeSpec := { name := "boardLines", fn := fun _ => fun
  | [d1, d2] => { results := [.lit (.bool true)], args := [d1, d2] }
  | _ => none }
def boardLinesRow : OpenClaim := { program := "ytcpjkilnbhfpjaadoor", sum := "a45d810f30a5055bc88bc07da4551862df13614b4d490c7c835a70e2109907cc", func := "skewer/skewerlaw01.BoardLines", spec := "boardLines", unfollowed := true, recurses := true, named := ["skewer/board.rays"], apart := false, laid := [("skewer/board.rays", laid_skewer_board_rays)] }
def BoardLinesSaid : Prop := boardLinesRow.holds Tryd.pinned (OpenSpec.ofChange boardLinesSpec)

/-- ITS FALSE NEIGHBOUR: 'it returns false'. Refute it at one input. -/
def boardLinesWrong : ChangeSpec := { name := "boardLines", fn := fun _ => fun
  | [d1, d2] => { results := [.lit (.bool false)], args := [d1, d2] }
  | _ => none }
def BoardLinesWrongFalsely : Prop := boardLinesRow.holds Tryd.pinned (OpenSpec.ofChange boardLinesWrong)

/-- 'skewerlaw01.BoardFar': WHATEVER THE INPUT: true; the input reads as it did. -/
def boardFarSpec : ChangeSpec := { name := "boardFar", fn := fun _ => fun
  | [d] => { results := [.lit (.bool true)], args := [d] }
  | _ => none }
def boardFarRow : OpenClaim := { program := "ytcpjkilnbhfpjaadoor", sum := "a45d810f30a5055bc88bc07da4551862df13614b4d490c7c835a70e2109907cc", func := "skewer/skewerlaw01.BoardFar", spec := "boardFar", unfollowed := true, recurses := true, named := ["skewer/board.rays"], apart := false, laid := [("skewer/board.rays", laid_skewer_board_rays)] }
def BoardFarSaid : Prop := boardFarRow.holds Tryd.pinned (OpenSpec.ofChange boardFarSpec)

/-- ITS FALSE NEIGHBOUR: 'it returns false'. Refute it at one input. -/
def boardFarWrong : ChangeSpec := { name := "boardFar", fn := fun _ => fun
  | [d] => { results := [.lit (.bool false)], args := [d] }
  | _ => none }
def BoardFarWrongFalsely : Prop := boardFarRow.holds Tryd.pinned (OpenSpec.ofChange boardFarWrong)

/-- 'skewerlaw01.BoardParts': WHATEVER THE INPUT: true; the input reads as it did. -/
def boardPartsSpec : ChangeSpec := { name := "boardParts", fn := fun _ => fun
  | [d] => { results := [.lit (.bool true)], args := [d] }
  | _ => none }
def boardPartsRow : OpenClaim := { program := "ytcpjkilnbhfpjaadoor", sum := "a45d810f30a5055bc88bc07da4551862df13614b4d490c7c835a70e2109907cc", func := "skewer/skewerlaw01.BoardParts", spec := "boardParts", unfollowed := true, recurses := true, named := ["skewer/board.rays"], apart := false, laid := [("skewer/board.rays", laid_skewer_board_rays)] }
def BoardPartsSaid : Prop := boardPartsRow.holds Tryd.pinned (OpenSpec.ofChange boardPartsSpec)

/-- ITS FALSE NEIGHBOUR: 'it returns false'. Refute it at one input. -/
def boardPartsWrong : ChangeSpec := { name := "boardParts", fn := fun _ => fun
  | [d] => { results := [.lit (.bool false)], args := [d] }
  | _ => none }
def BoardPartsWrongFalsely : Prop := boardPartsRow.holds Tryd.pinned (OpenSpec.ofChange boardPartsWrong)

/-- 'skewerlaw01.BoardGrids': WHATEVER THE INPUT: true; the input reads as it did. -/
def boardGridsSpec : ChangeSpec := { name := "boardGrids", fn := fun _ => fun
  | [d1, d2, d3] => { results := [.lit (.bool true)], args := [d1, d2, d3] }
  | _ => none }
def boardGridsRow : OpenClaim := { program := "ytcpjkilnbhfpjaadoor", sum := "a45d810f30a5055bc88bc07da4551862df13614b4d490c7c835a70e2109907cc", func := "skewer/skewerlaw01.BoardGrids", spec := "boardGrids", unfollowed := true, recurses := true, named := ["skewer/board.rays"], apart := false, laid := [("skewer/board.rays", laid_skewer_board_rays)] }
def BoardGridsSaid : Prop := boardGridsRow.holds Tryd.pinned (OpenSpec.ofChange boardGridsSpec)

/-- ITS FALSE NEIGHBOUR: 'it returns false'. Refute it at one input. -/
def boardGridsWrong : ChangeSpec := { name := "boardGrids", fn := fun _ => fun
  | [d1, d2, d3] => { results := [.lit (.bool false)], args := [d1, d2, d3] }
  | _ => none }
def BoardGridsWrongFalsely : Prop := boardGridsRow.holds Tryd.pinned (OpenSpec.ofChange boardGridsWrong)

/-- 'skewerlaw01.BoardWithout': WHATEVER THE INPUT: true; the input reads as it did. -/
def boardWithoutSpec : ChangeSpec := { name := "boardWithout", fn := fun _ => fun
  | [d1, d2] => { results := [.lit (.bool true)], args := [d1, d2] }
  | _ => none }
def boardWithoutRow : OpenClaim := { program := "ytcpjkilnbhfpjaadoor", sum := "a45d810f30a5055bc88bc07da4551862df13614b4d490c7c835a70e2109907cc", func := "skewer/skewerlaw01.BoardWithout", spec := "boardWithout", unfollowed := true, recurses := true, named := ["skewer/board.rays"], apart := false, laid := [("skewer/board.rays", laid_skewer_board_rays)] }
def BoardWithoutSaid : Prop := boardWithoutRow.holds Tryd.pinned (OpenSpec.ofChange boardWithoutSpec)

/-- ITS FALSE NEIGHBOUR: 'it returns false'. Refute it at one input. -/
def boardWithoutWrong : ChangeSpec := { name := "boardWithout", fn := fun _ => fun
  | [d1, d2] => { results := [.lit (.bool false)], args := [d1, d2] }
  | _ => none }
def BoardWithoutWrongFalsely : Prop := boardWithoutRow.holds Tryd.pinned (OpenSpec.ofChange boardWithoutWrong)

/- THE SECOND FORM. 'bulk': how many values and letters a reading holds, each counted each time it is reached (what is shared counts as often as it is met; a slice's spare places count too). A statement '..UptoSaid' is the law's where the arguments, and the package variables that the reading takes, are together of bulk at most 1048576: NARROWER than '..Said'. Prove '..Said' where nothing that the law and all that it calls make is longer than what came in: it says more and counts as full. Else prove '..UptoSaid'. A law counts once. -/
mutual
def uptoBulk {H : Type} : DataW H → Nat
  | .lit (.string bytes) => bytes.length + 1
  | .lit _ => 1
  | .nil => 1
  | .ptr d => uptoBulk d + 1
  | .slice elems spare => uptoBulkAll elems + uptoBulkAll spare + 1
  | .agg parts => uptoBulkAll parts + 1
  | .iface _ d => uptoBulk d + 1
  | .map entries => uptoBulkEntries entries + 1
  | .held _ => 1
def uptoBulkAll {H : Type} : List (DataW H) → Nat
  | [] => 0
  | d :: r => uptoBulk d + uptoBulkAll r
def uptoBulkEntries {H : Type} : List (Lit × DataW H) → Nat
  | [] => 0
  | x :: r => uptoBulkEntry x + uptoBulkEntries r
def uptoBulkEntry {H : Type} : Lit × DataW H → Nat
  | (.string bytes, d) => bytes.length + uptoBulk d + 1
  | (_, d) => uptoBulk d + 1
 end
def uptoSmall : (H : Type) → List (DataW H) → Bool := fun _ ds => decide (uptoBulkAll ds ≤ 1048576)
def OpenSpec.upto (s : _root_.Go.ChangeSpec) : _root_.Go.OpenSpec := { _root_.Go.OpenSpec.ofChange s with cond := some uptoSmall }

/-- 'skewerlaw01.BoardMatchesReference', WHERE WHAT IT READS IS OF BULK AT MOST 1048576: true; the input reads as it did. -/
def boardMatchesReferenceUptoRow : OpenClaim := { program := "ytcpjkilnbhfpjaadoor", sum := "a45d810f30a5055bc88bc07da4551862df13614b4d490c7c835a70e2109907cc", func := "skewer/skewerlaw01.BoardMatchesReference", spec := "boardMatchesReference", unfollowed := true, recurses := true, named := ["skewer/board.rays"], apart := false, laid := [("skewer/board.rays", laid_skewer_board_rays)], narrowed := true }
def BoardMatchesReferenceUptoSaid : Prop := boardMatchesReferenceUptoRow.holds Tryd.pinned (OpenSpec.upto boardMatchesReferenceSpec)

/-- 'skewerlaw01.BoardValid', WHERE WHAT IT READS IS OF BULK AT MOST 1048576: true; the input reads as it did. -/
def boardValidUptoRow : OpenClaim := { program := "ytcpjkilnbhfpjaadoor", sum := "a45d810f30a5055bc88bc07da4551862df13614b4d490c7c835a70e2109907cc", func := "skewer/skewerlaw01.BoardValid", spec := "boardValid", unfollowed := true, recurses := true, named := ["skewer/board.rays"], apart := false, laid := [("skewer/board.rays", laid_skewer_board_rays)], narrowed := true }
def BoardValidUptoSaid : Prop := boardValidUptoRow.holds Tryd.pinned (OpenSpec.upto boardValidSpec)

/-- 'skewerlaw01.BoardSides', WHERE WHAT IT READS IS OF BULK AT MOST 1048576: true; the input reads as it did. -/
def boardSidesUptoRow : OpenClaim := { program := "ytcpjkilnbhfpjaadoor", sum := "a45d810f30a5055bc88bc07da4551862df13614b4d490c7c835a70e2109907cc", func := "skewer/skewerlaw01.BoardSides", spec := "boardSides", unfollowed := true, recurses := true, named := ["skewer/board.rays"], apart := false, laid := [("skewer/board.rays", laid_skewer_board_rays)], narrowed := true }
def BoardSidesUptoSaid : Prop := boardSidesUptoRow.holds Tryd.pinned (OpenSpec.upto boardSidesSpec)

/-- 'skewerlaw01.BoardLines', WHERE WHAT IT READS IS OF BULK AT MOST 1048576: true; the input reads as it did. -/
def boardLinesUptoRow : OpenClaim := { program := "ytcpjkilnbhfpjaadoor", sum := "a45d810f30a5055bc88bc07da4551862df13614b4d490c7c835a70e2109907cc", func := "skewer/skewerlaw01.BoardLines", spec := "boardLines", unfollowed := true, recurses := true, named := ["skewer/board.rays"], apart := false, laid := [("skewer/board.rays", laid_skewer_board_rays)], narrowed := true }
def BoardLinesUptoSaid : Prop := boardLinesUptoRow.holds Tryd.pinned (OpenSpec.upto boardLinesSpec)

/-- 'skewerlaw01.BoardFar', WHERE WHAT IT READS IS OF BULK AT MOST 1048576: true; the input reads as it did. -/
def boardFarUptoRow : OpenClaim := { program := "ytcpjkilnbhfpjaadoor", sum := "a45d810f30a5055bc88bc07da4551862df13614b4d490c7c835a70e2109907cc", func := "skewer/skewerlaw01.BoardFar", spec := "boardFar", unfollowed := true, recurses := true, named := ["skewer/board.rays"], apart := false, laid := [("skewer/board.rays", laid_skewer_board_rays)], narrowed := true }
def BoardFarUptoSaid : Prop := boardFarUptoRow.holds Tryd.pinned (OpenSpec.upto boardFarSpec)

/-- 'skewerlaw01.BoardParts', WHERE WHAT IT READS IS OF BULK AT MOST 1048576: true; the input reads as it did. -/
def boardPartsUptoRow : OpenClaim := { program := "ytcpjkilnbhfpjaadoor", sum := "a45d810f30a5055bc88bc07da4551862df13614b4d490c7c835a70e2109907cc", func := "skewer/skewerlaw01.BoardParts", spec := "boardParts", unfollowed := true, recurses := true, named := ["skewer/board.rays"], apart := false, laid := [("skewer/board.rays", laid_skewer_board_rays)], narrowed := true }
def BoardPartsUptoSaid : Prop := boardPartsUptoRow.holds Tryd.pinned (OpenSpec.upto boardPartsSpec)

/-- 'skewerlaw01.BoardGrids', WHERE WHAT IT READS IS OF BULK AT MOST 1048576: true; the input reads as it did. -/
def boardGridsUptoRow : OpenClaim := { program := "ytcpjkilnbhfpjaadoor", sum := "a45d810f30a5055bc88bc07da4551862df13614b4d490c7c835a70e2109907cc", func := "skewer/skewerlaw01.BoardGrids", spec := "boardGrids", unfollowed := true, recurses := true, named := ["skewer/board.rays"], apart := false, laid := [("skewer/board.rays", laid_skewer_board_rays)], narrowed := true }
def BoardGridsUptoSaid : Prop := boardGridsUptoRow.holds Tryd.pinned (OpenSpec.upto boardGridsSpec)

/-- 'skewerlaw01.BoardWithout', WHERE WHAT IT READS IS OF BULK AT MOST 1048576: true; the input reads as it did. -/
def boardWithoutUptoRow : OpenClaim := { program := "ytcpjkilnbhfpjaadoor", sum := "a45d810f30a5055bc88bc07da4551862df13614b4d490c7c835a70e2109907cc", func := "skewer/skewerlaw01.BoardWithout", spec := "boardWithout", unfollowed := true, recurses := true, named := ["skewer/board.rays"], apart := false, laid := [("skewer/board.rays", laid_skewer_board_rays)], narrowed := true }
def BoardWithoutUptoSaid : Prop := boardWithoutUptoRow.holds Tryd.pinned (OpenSpec.upto boardWithoutSpec)

end Rows
end Go.Proofs.YtcpjkilnbhfpjaaDoor
