/-
  NARROWER THAN 'FOR EVERY INPUT', by the rows' own cells (each row's printed sentence says how): GameMatchesReference: laid · GameValid: laid · GameTexts: laid · GameContents: laid · GameNames: laid · GameParts: laid · GameLines: laid.
  DERIVED. THE GIVEN ROWS OF THIS SEAT. 7 by the template 'for every input the law returns true; each argument reads behind the call as it read before'; 0 by the template 'total and deterministic' (their statements: YtbmcngoeinginaaGreatDoorTotals.lean).
  GIVEN WITH THE SEED: the statements are not yours to turn. If you find one false, say at which input.
  Laid BY PROGRAM, IN A SANDBOX (cutbox-rows.mjs): the forced cells as the released guide's own fill.sh prints them over the translation 1322677b7fea6036… (all of the seat's roots in one cut). By AI agents, Wed Nov 11 2026. No macro, syntax, notation, axiom, sorry.
-/
import Derived.Test.YtbmcngoeinginaaGreatDoorChecked
import GoSem.PinnedTables
import GoSem.Claim
import GoSem.ClaimJoined
import GoSem.ClaimMapViews
import Derived.JoinedTies
import Derived.KernelRfl
namespace Go.Proofs.YtbmcngoeinginaaGreatDoor
/- THE CELL 'sum', in the pinned program and in every row, IS THE sha256 OF THE DUMP (.gsa) THAT YtbmcngoeinginaaGreatDoorProg.lean LOADS. Nothing in Lean hashes anything: it is a label: what it is worth is what the hold of that sum in a sandbox is worth. -/
noncomputable def Tryz.pinned : Pinned := { name := "ytbmcngoeinginaagreatdoor", sum := "1322677b7fea6036211985b583a04a6d96f6122b2a3693451a3652f29c8f98ae", checked := Tryz.checked }
namespace Rows
def none {H : Type} : Left H := { results := [], args := [] }

/- WHAT THE LISTED PACKAGE-LEVEL VARIABLES READ AS WHEN THE CALL BEGINS. Each datum BY PROGRAM (the guide's laid-datum.mjs) off the statement by which the dump's own 'gosem.cut.vars' lays the variable. In a bare row this is a premise. The card (YtbmcngoeinginaaGreatDoorCards.lean) ties it to the program's text. -/
def laid_math_bits_deBruijn32tab {H : Type} : DataW H := .agg [.lit (.int .u8 0), .lit (.int .u8 1), .lit (.int .u8 28), .lit (.int .u8 2), .lit (.int .u8 29), .lit (.int .u8 14), .lit (.int .u8 24), .lit (.int .u8 3), .lit (.int .u8 30), .lit (.int .u8 22), .lit (.int .u8 20), .lit (.int .u8 15), .lit (.int .u8 25), .lit (.int .u8 17), .lit (.int .u8 4), .lit (.int .u8 8), .lit (.int .u8 31), .lit (.int .u8 27), .lit (.int .u8 13), .lit (.int .u8 23), .lit (.int .u8 21), .lit (.int .u8 19), .lit (.int .u8 16), .lit (.int .u8 7), .lit (.int .u8 26), .lit (.int .u8 12), .lit (.int .u8 18), .lit (.int .u8 6), .lit (.int .u8 11), .lit (.int .u8 5), .lit (.int .u8 10), .lit (.int .u8 9)]
def laid_math_bits_deBruijn64tab {H : Type} : DataW H := .agg [.lit (.int .u8 0), .lit (.int .u8 1), .lit (.int .u8 56), .lit (.int .u8 2), .lit (.int .u8 57), .lit (.int .u8 49), .lit (.int .u8 28), .lit (.int .u8 3), .lit (.int .u8 61), .lit (.int .u8 58), .lit (.int .u8 42), .lit (.int .u8 50), .lit (.int .u8 38), .lit (.int .u8 29), .lit (.int .u8 17), .lit (.int .u8 4), .lit (.int .u8 62), .lit (.int .u8 47), .lit (.int .u8 59), .lit (.int .u8 36), .lit (.int .u8 45), .lit (.int .u8 43), .lit (.int .u8 51), .lit (.int .u8 22), .lit (.int .u8 53), .lit (.int .u8 39), .lit (.int .u8 33), .lit (.int .u8 30), .lit (.int .u8 24), .lit (.int .u8 18), .lit (.int .u8 12), .lit (.int .u8 5), .lit (.int .u8 63), .lit (.int .u8 55), .lit (.int .u8 48), .lit (.int .u8 27), .lit (.int .u8 60), .lit (.int .u8 41), .lit (.int .u8 37), .lit (.int .u8 16), .lit (.int .u8 46), .lit (.int .u8 35), .lit (.int .u8 44), .lit (.int .u8 21), .lit (.int .u8 52), .lit (.int .u8 32), .lit (.int .u8 23), .lit (.int .u8 11), .lit (.int .u8 54), .lit (.int .u8 26), .lit (.int .u8 40), .lit (.int .u8 15), .lit (.int .u8 34), .lit (.int .u8 20), .lit (.int .u8 31), .lit (.int .u8 10), .lit (.int .u8 25), .lit (.int .u8 14), .lit (.int .u8 19), .lit (.int .u8 9), .lit (.int .u8 13), .lit (.int .u8 8), .lit (.int .u8 7), .lit (.int .u8 6)]
def laid_internal_strconv_uint64pow10 {H : Type} : DataW H := .agg [.lit (.int .u64 1), .lit (.int .u64 10), .lit (.int .u64 100), .lit (.int .u64 1000), .lit (.int .u64 10000), .lit (.int .u64 100000), .lit (.int .u64 1000000), .lit (.int .u64 10000000), .lit (.int .u64 100000000), .lit (.int .u64 1000000000), .lit (.int .u64 10000000000), .lit (.int .u64 100000000000), .lit (.int .u64 1000000000000), .lit (.int .u64 10000000000000), .lit (.int .u64 100000000000000), .lit (.int .u64 1000000000000000), .lit (.int .u64 10000000000000000), .lit (.int .u64 100000000000000000), .lit (.int .u64 1000000000000000000), .lit (.int .u64 10000000000000000000)]
def laid_unicode_utf8_acceptRanges {H : Type} : DataW H := .agg [.agg [.lit (.int .u8 128), .lit (.int .u8 191)], .agg [.lit (.int .u8 160), .lit (.int .u8 191)], .agg [.lit (.int .u8 128), .lit (.int .u8 159)], .agg [.lit (.int .u8 144), .lit (.int .u8 191)], .agg [.lit (.int .u8 128), .lit (.int .u8 143)], .agg [.lit (.int .u8 0), .lit (.int .u8 0)], .agg [.lit (.int .u8 0), .lit (.int .u8 0)], .agg [.lit (.int .u8 0), .lit (.int .u8 0)], .agg [.lit (.int .u8 0), .lit (.int .u8 0)], .agg [.lit (.int .u8 0), .lit (.int .u8 0)], .agg [.lit (.int .u8 0), .lit (.int .u8 0)], .agg [.lit (.int .u8 0), .lit (.int .u8 0)], .agg [.lit (.int .u8 0), .lit (.int .u8 0)], .agg [.lit (.int .u8 0), .lit (.int .u8 0)], .agg [.lit (.int .u8 0), .lit (.int .u8 0)], .agg [.lit (.int .u8 0), .lit (.int .u8 0)]]
def laid_strconv_ErrRange {H : Type} : DataW H := .iface "*errors.errorString" (.ptr (.agg [.lit (.string [118, 97, 108, 117, 101, 32, 111, 117, 116, 32, 111, 102, 32, 114, 97, 110, 103, 101])]))
def laid_strconv_ErrSyntax {H : Type} : DataW H := .iface "*errors.errorString" (.ptr (.agg [.lit (.string [105, 110, 118, 97, 108, 105, 100, 32, 115, 121, 110, 116, 97, 120])]))
def laid_skewer_prog_signs {H : Type} : DataW H := .agg [.agg [.lit (.string []), .lit (.int .i64 0)], .agg [.lit (.string [103, 111]), .lit (.int .i64 1)], .agg [.lit (.string [115, 108, 105, 100, 101]), .lit (.int .i64 1)], .agg [.lit (.string [101, 109, 112, 116, 121]), .lit (.int .i64 0)], .agg [.lit (.string [101, 110, 101, 109, 121]), .lit (.int .i64 0)], .agg [.lit (.string [102, 114, 105, 101, 110, 100]), .lit (.int .i64 0)], .agg [.lit (.string [116, 97, 107, 101]), .lit (.int .i64 0)], .agg [.lit (.string [112, 117, 115, 104]), .lit (.int .i64 1)], .agg [.lit (.string [98, 101, 99, 111, 109, 101]), .lit (.int .i64 2)], .agg [.lit (.string [110, 101, 101, 100]), .lit (.int .i64 3)], .agg [.lit (.string [108, 111, 115, 101]), .lit (.int .i64 3)]]
def laid_skewer_game_results {H : Type} : DataW H := .agg [.lit (.string []), .lit (.string [119, 105, 110]), .lit (.string [100, 114, 97, 119]), .lit (.string [108, 111, 115, 115])]
/-- One of Go's own tables, pinned by name: the form's constant. -/
def laid_unicode_utf8_first : DataW Unit := Go.Pinned.utf8First

/-- 'skewerlaw03.GameMatchesReference': WHATEVER THE INPUT: true; the input reads as it did. -/
def gameMatchesReferenceSpec : ChangeSpec := { name := "gameMatchesReference", fn := fun _ => fun
  | [d1, d2, d3] => { results := [.lit (.bool true)], args := [d1, d2, d3] }
  | _ => none }
def gameMatchesReferenceRow : OpenClaim := { program := "ytbmcngoeinginaagreatdoor", sum := "1322677b7fea6036211985b583a04a6d96f6122b2a3693451a3652f29c8f98ae", func := "skewer/skewerlaw03.GameMatchesReference", spec := "gameMatchesReference", inPlace := ["internal/abi.NoEscape", "internal/bytealg.MakeNoZero", "internal/bytealg.CountString", "internal/bytealg.IndexByteString", "internal/bytealg.IndexString"], unfollowed := true, recurses := true, named := ["strconv.ErrSyntax", "strconv.ErrRange", "internal/strconv.uint64pow10", "math/bits.deBruijn32tab", "math/bits.deBruijn64tab", "unicode/utf8.first", "unicode/utf8.acceptRanges", "internal/bytealg.MaxLen", "skewer/prog.signs", "skewer/game.results"], apart := false, laid := [("math/bits.deBruijn32tab", laid_math_bits_deBruijn32tab), ("math/bits.deBruijn64tab", laid_math_bits_deBruijn64tab), ("internal/strconv.uint64pow10", laid_internal_strconv_uint64pow10), ("unicode/utf8.acceptRanges", laid_unicode_utf8_acceptRanges), ("strconv.ErrRange", laid_strconv_ErrRange), ("strconv.ErrSyntax", laid_strconv_ErrSyntax), ("skewer/prog.signs", laid_skewer_prog_signs), ("skewer/game.results", laid_skewer_game_results), ("unicode/utf8.first", laid_unicode_utf8_first)] }
def GameMatchesReferenceSaid : Prop := gameMatchesReferenceRow.holds Tryz.pinned (OpenSpec.ofChange gameMatchesReferenceSpec)

/-- ITS FALSE NEIGHBOUR: 'it returns false'. Refute it at one input. -/
def gameMatchesReferenceWrong : ChangeSpec := { name := "gameMatchesReference", fn := fun _ => fun
  | [d1, d2, d3] => { results := [.lit (.bool false)], args := [d1, d2, d3] }
  | _ => none }
def GameMatchesReferenceWrongFalsely : Prop := gameMatchesReferenceRow.holds Tryz.pinned (OpenSpec.ofChange gameMatchesReferenceWrong)

/-- 'skewerlaw03.GameValid': WHATEVER THE INPUT: true; the input reads as it did. -/
def gameValidSpec : ChangeSpec := { name := "gameValid", fn := fun _ => fun
  | [d1, d2] => { results := [.lit (.bool true)], args := [d1, d2] }
  | _ => none }
def gameValidRow : OpenClaim := { program := "ytbmcngoeinginaagreatdoor", sum := "1322677b7fea6036211985b583a04a6d96f6122b2a3693451a3652f29c8f98ae", func := "skewer/skewerlaw03.GameValid", spec := "gameValid", inPlace := ["internal/abi.NoEscape", "internal/bytealg.MakeNoZero", "internal/bytealg.CountString", "internal/bytealg.IndexByteString", "internal/bytealg.IndexString"], unfollowed := true, recurses := true, named := ["strconv.ErrSyntax", "strconv.ErrRange", "internal/strconv.uint64pow10", "math/bits.deBruijn32tab", "math/bits.deBruijn64tab", "unicode/utf8.first", "unicode/utf8.acceptRanges", "internal/bytealg.MaxLen", "skewer/prog.signs", "skewer/game.results"], apart := false, laid := [("math/bits.deBruijn32tab", laid_math_bits_deBruijn32tab), ("math/bits.deBruijn64tab", laid_math_bits_deBruijn64tab), ("internal/strconv.uint64pow10", laid_internal_strconv_uint64pow10), ("unicode/utf8.acceptRanges", laid_unicode_utf8_acceptRanges), ("strconv.ErrRange", laid_strconv_ErrRange), ("strconv.ErrSyntax", laid_strconv_ErrSyntax), ("skewer/prog.signs", laid_skewer_prog_signs), ("skewer/game.results", laid_skewer_game_results), ("unicode/utf8.first", laid_unicode_utf8_first)] }
def GameValidSaid : Prop := gameValidRow.holds Tryz.pinned (OpenSpec.ofChange gameValidSpec)

/-- ITS FALSE NEIGHBOUR: 'it returns false'. Refute it at one input. -/
def gameValidWrong : ChangeSpec := { name := "gameValid", fn := fun _ => fun
  | [d1, d2] => { results := [.lit (.bool false)], args := [d1, d2] }
  | _ => none }
def GameValidWrongFalsely : Prop := gameValidRow.holds Tryz.pinned (OpenSpec.ofChange gameValidWrong)

/-- 'skewerlaw03.GameTexts': WHATEVER THE INPUT: true; the input reads as it did. -/
def gameTextsSpec : ChangeSpec := { name := "gameTexts", fn := fun _ => fun
  | [d1, d2, d3] => { results := [.lit (.bool true)], args := [d1, d2, d3] }
  | _ => none }
def gameTextsRow : OpenClaim := { program := "ytbmcngoeinginaagreatdoor", sum := "1322677b7fea6036211985b583a04a6d96f6122b2a3693451a3652f29c8f98ae", func := "skewer/skewerlaw03.GameTexts", spec := "gameTexts", inPlace := ["internal/abi.NoEscape", "internal/bytealg.MakeNoZero", "internal/bytealg.CountString", "internal/bytealg.IndexByteString", "internal/bytealg.IndexString"], unfollowed := true, recurses := true, named := ["strconv.ErrSyntax", "strconv.ErrRange", "internal/strconv.uint64pow10", "math/bits.deBruijn32tab", "math/bits.deBruijn64tab", "unicode/utf8.first", "unicode/utf8.acceptRanges", "internal/bytealg.MaxLen", "skewer/prog.signs", "skewer/game.results"], apart := false, laid := [("math/bits.deBruijn32tab", laid_math_bits_deBruijn32tab), ("math/bits.deBruijn64tab", laid_math_bits_deBruijn64tab), ("internal/strconv.uint64pow10", laid_internal_strconv_uint64pow10), ("unicode/utf8.acceptRanges", laid_unicode_utf8_acceptRanges), ("strconv.ErrRange", laid_strconv_ErrRange), ("strconv.ErrSyntax", laid_strconv_ErrSyntax), ("skewer/prog.signs", laid_skewer_prog_signs), ("skewer/game.results", laid_skewer_game_results), ("unicode/utf8.first", laid_unicode_utf8_first)] }
def GameTextsSaid : Prop := gameTextsRow.holds Tryz.pinned (OpenSpec.ofChange gameTextsSpec)

/-- ITS FALSE NEIGHBOUR: 'it returns false'. Refute it at one input. -/
def gameTextsWrong : ChangeSpec := { name := "gameTexts", fn := fun _ => fun
  | [d1, d2, d3] => { results := [.lit (.bool false)], args := [d1, d2, d3] }
  | _ => none }
def GameTextsWrongFalsely : Prop := gameTextsRow.holds Tryz.pinned (OpenSpec.ofChange gameTextsWrong)

/-- 'skewerlaw03.GameContents': WHATEVER THE INPUT: true; the input reads as it did. -/
def gameContentsSpec : ChangeSpec := { name := "gameContents", fn := fun _ => fun
  | [d1, d2] => { results := [.lit (.bool true)], args := [d1, d2] }
  | _ => none }
def gameContentsRow : OpenClaim := { program := "ytbmcngoeinginaagreatdoor", sum := "1322677b7fea6036211985b583a04a6d96f6122b2a3693451a3652f29c8f98ae", func := "skewer/skewerlaw03.GameContents", spec := "gameContents", inPlace := ["internal/abi.NoEscape", "internal/bytealg.MakeNoZero", "internal/bytealg.CountString", "internal/bytealg.IndexByteString", "internal/bytealg.IndexString"], unfollowed := true, recurses := true, named := ["strconv.ErrSyntax", "strconv.ErrRange", "internal/strconv.uint64pow10", "math/bits.deBruijn32tab", "math/bits.deBruijn64tab", "unicode/utf8.first", "unicode/utf8.acceptRanges", "internal/bytealg.MaxLen", "skewer/prog.signs", "skewer/game.results"], apart := false, laid := [("math/bits.deBruijn32tab", laid_math_bits_deBruijn32tab), ("math/bits.deBruijn64tab", laid_math_bits_deBruijn64tab), ("internal/strconv.uint64pow10", laid_internal_strconv_uint64pow10), ("unicode/utf8.acceptRanges", laid_unicode_utf8_acceptRanges), ("strconv.ErrRange", laid_strconv_ErrRange), ("strconv.ErrSyntax", laid_strconv_ErrSyntax), ("skewer/prog.signs", laid_skewer_prog_signs), ("skewer/game.results", laid_skewer_game_results), ("unicode/utf8.first", laid_unicode_utf8_first)] }
def GameContentsSaid : Prop := gameContentsRow.holds Tryz.pinned (OpenSpec.ofChange gameContentsSpec)

/-- ITS FALSE NEIGHBOUR: 'it returns false'. Refute it at one input. -/
def gameContentsWrong : ChangeSpec := { name := "gameContents", fn := fun _ => fun
  | [d1, d2] => { results := [.lit (.bool false)], args := [d1, d2] }
  | _ => none }
def GameContentsWrongFalsely : Prop := gameContentsRow.holds Tryz.pinned (OpenSpec.ofChange gameContentsWrong)

/-- 'skewerlaw03.GameNames': WHATEVER THE INPUT: true; the input reads as it did. -/
def gameNamesSpec : ChangeSpec := { name := "gameNames", fn := fun _ => fun
  | [d1, d2] => { results := [.lit (.bool true)], args := [d1, d2] }
  | _ => none }
def gameNamesRow : OpenClaim := { program := "ytbmcngoeinginaagreatdoor", sum := "1322677b7fea6036211985b583a04a6d96f6122b2a3693451a3652f29c8f98ae", func := "skewer/skewerlaw03.GameNames", spec := "gameNames", inPlace := ["internal/abi.NoEscape", "internal/bytealg.MakeNoZero", "internal/bytealg.CountString", "internal/bytealg.IndexByteString", "internal/bytealg.IndexString"], unfollowed := true, recurses := true, named := ["strconv.ErrSyntax", "strconv.ErrRange", "internal/strconv.uint64pow10", "math/bits.deBruijn32tab", "math/bits.deBruijn64tab", "unicode/utf8.first", "unicode/utf8.acceptRanges", "internal/bytealg.MaxLen", "skewer/prog.signs", "skewer/game.results"], apart := false, laid := [("math/bits.deBruijn32tab", laid_math_bits_deBruijn32tab), ("math/bits.deBruijn64tab", laid_math_bits_deBruijn64tab), ("internal/strconv.uint64pow10", laid_internal_strconv_uint64pow10), ("unicode/utf8.acceptRanges", laid_unicode_utf8_acceptRanges), ("strconv.ErrRange", laid_strconv_ErrRange), ("strconv.ErrSyntax", laid_strconv_ErrSyntax), ("skewer/prog.signs", laid_skewer_prog_signs), ("skewer/game.results", laid_skewer_game_results), ("unicode/utf8.first", laid_unicode_utf8_first)] }
def GameNamesSaid : Prop := gameNamesRow.holds Tryz.pinned (OpenSpec.ofChange gameNamesSpec)

/-- ITS FALSE NEIGHBOUR: 'it returns false'. Refute it at one input. -/
def gameNamesWrong : ChangeSpec := { name := "gameNames", fn := fun _ => fun
  | [d1, d2] => { results := [.lit (.bool false)], args := [d1, d2] }
  | _ => none }
def GameNamesWrongFalsely : Prop := gameNamesRow.holds Tryz.pinned (OpenSpec.ofChange gameNamesWrong)

/-- 'skewerlaw03.GameParts': WHATEVER THE INPUT: true; the input reads as it did. -/
def gamePartsSpec : ChangeSpec := { name := "gameParts", fn := fun _ => fun
  | [d1, d2, d3] => { results := [.lit (.bool true)], args := [d1, d2, d3] }
  | _ => none }
def gamePartsRow : OpenClaim := { program := "ytbmcngoeinginaagreatdoor", sum := "1322677b7fea6036211985b583a04a6d96f6122b2a3693451a3652f29c8f98ae", func := "skewer/skewerlaw03.GameParts", spec := "gameParts", inPlace := ["internal/abi.NoEscape", "internal/bytealg.MakeNoZero", "internal/bytealg.CountString", "internal/bytealg.IndexByteString", "internal/bytealg.IndexString"], unfollowed := true, recurses := true, named := ["strconv.ErrSyntax", "strconv.ErrRange", "internal/strconv.uint64pow10", "math/bits.deBruijn32tab", "math/bits.deBruijn64tab", "unicode/utf8.first", "unicode/utf8.acceptRanges", "internal/bytealg.MaxLen", "skewer/prog.signs", "skewer/game.results"], apart := false, laid := [("math/bits.deBruijn32tab", laid_math_bits_deBruijn32tab), ("math/bits.deBruijn64tab", laid_math_bits_deBruijn64tab), ("internal/strconv.uint64pow10", laid_internal_strconv_uint64pow10), ("unicode/utf8.acceptRanges", laid_unicode_utf8_acceptRanges), ("strconv.ErrRange", laid_strconv_ErrRange), ("strconv.ErrSyntax", laid_strconv_ErrSyntax), ("skewer/prog.signs", laid_skewer_prog_signs), ("skewer/game.results", laid_skewer_game_results), ("unicode/utf8.first", laid_unicode_utf8_first)] }
def GamePartsSaid : Prop := gamePartsRow.holds Tryz.pinned (OpenSpec.ofChange gamePartsSpec)

/-- ITS FALSE NEIGHBOUR: 'it returns false'. Refute it at one input. -/
def gamePartsWrong : ChangeSpec := { name := "gameParts", fn := fun _ => fun
  | [d1, d2, d3] => { results := [.lit (.bool false)], args := [d1, d2, d3] }
  | _ => none }
def GamePartsWrongFalsely : Prop := gamePartsRow.holds Tryz.pinned (OpenSpec.ofChange gamePartsWrong)

/-- 'skewerlaw03.GameLines': WHATEVER THE INPUT: true; the input reads as it did. -/
def gameLinesSpec : ChangeSpec := { name := "gameLines", fn := fun _ => fun
  | [d1, d2] => { results := [.lit (.bool true)], args := [d1, d2] }
  | _ => none }
def gameLinesRow : OpenClaim := { program := "ytbmcngoeinginaagreatdoor", sum := "1322677b7fea6036211985b583a04a6d96f6122b2a3693451a3652f29c8f98ae", func := "skewer/skewerlaw03.GameLines", spec := "gameLines", inPlace := ["internal/abi.NoEscape", "internal/bytealg.MakeNoZero", "internal/bytealg.CountString", "internal/bytealg.IndexByteString", "internal/bytealg.IndexString"], unfollowed := true, recurses := true, named := ["strconv.ErrSyntax", "strconv.ErrRange", "internal/strconv.uint64pow10", "math/bits.deBruijn32tab", "math/bits.deBruijn64tab", "unicode/utf8.first", "unicode/utf8.acceptRanges", "internal/bytealg.MaxLen", "skewer/prog.signs", "skewer/game.results"], apart := false, laid := [("math/bits.deBruijn32tab", laid_math_bits_deBruijn32tab), ("math/bits.deBruijn64tab", laid_math_bits_deBruijn64tab), ("internal/strconv.uint64pow10", laid_internal_strconv_uint64pow10), ("unicode/utf8.acceptRanges", laid_unicode_utf8_acceptRanges), ("strconv.ErrRange", laid_strconv_ErrRange), ("strconv.ErrSyntax", laid_strconv_ErrSyntax), ("skewer/prog.signs", laid_skewer_prog_signs), ("skewer/game.results", laid_skewer_game_results), ("unicode/utf8.first", laid_unicode_utf8_first)] }
def GameLinesSaid : Prop := gameLinesRow.holds Tryz.pinned (OpenSpec.ofChange gameLinesSpec)

/-- ITS FALSE NEIGHBOUR: 'it returns false'. Refute it at one input. -/
def gameLinesWrong : ChangeSpec := { name := "gameLines", fn := fun _ => fun
  | [d1, d2] => { results := [.lit (.bool false)], args := [d1, d2] }
  | _ => none }
def GameLinesWrongFalsely : Prop := gameLinesRow.holds Tryz.pinned (OpenSpec.ofChange gameLinesWrong)

/- THE SECOND FORM. 'bulk': how many values and letters a reading holds, each counted each time it is reached (what is shared counts as often as it is met; a slice's spare places count too). A statement '..UptoSaid' is the law's where the arguments, and the package variables that the reading takes, are together of bulk at most 1048576: NARROWER than '..Said'. Prove '..Said' where nothing that the law and all that it calls make is longer than what came in: it says more and counts as full. Else prove '..UptoSaid'. A law counts once. -/
mutual
def uptoBulk {H : Type} : DataW H → Nat
  | .lit (.string bytes) => bytes.length + 1
  | .lit _ => 1
  | .nil => 1
  | .ptr d => uptoBulk d + 1
  | .slice elems spare => uptoBulkAll elems + uptoBulkAll spare + 1
  | .agg parts => uptoBulkAll parts + 1
  | .iface _ d => uptoBulk d + 1
  | .map entries => uptoBulkEntries entries + 1
  | .held _ => 1
def uptoBulkAll {H : Type} : List (DataW H) → Nat
  | [] => 0
  | d :: r => uptoBulk d + uptoBulkAll r
def uptoBulkEntries {H : Type} : List (Lit × DataW H) → Nat
  | [] => 0
  | x :: r => uptoBulkEntry x + uptoBulkEntries r
def uptoBulkEntry {H : Type} : Lit × DataW H → Nat
  | (.string bytes, d) => bytes.length + uptoBulk d + 1
  | (_, d) => uptoBulk d + 1
 end
def uptoSmall : (H : Type) → List (DataW H) → Bool := fun _ ds => decide (uptoBulkAll ds ≤ 1048576)
def OpenSpec.upto (s : _root_.Go.ChangeSpec) : _root_.Go.OpenSpec := { _root_.Go.OpenSpec.ofChange s with cond := some uptoSmall }

/-- 'skewerlaw03.GameMatchesReference', WHERE WHAT IT READS IS OF BULK AT MOST 1048576: true; the input reads as it did. -/
def gameMatchesReferenceUptoRow : OpenClaim := { program := "ytbmcngoeinginaagreatdoor", sum := "1322677b7fea6036211985b583a04a6d96f6122b2a3693451a3652f29c8f98ae", func := "skewer/skewerlaw03.GameMatchesReference", spec := "gameMatchesReference", inPlace := ["internal/abi.NoEscape", "internal/bytealg.MakeNoZero", "internal/bytealg.CountString", "internal/bytealg.IndexByteString", "internal/bytealg.IndexString"], unfollowed := true, recurses := true, named := ["strconv.ErrSyntax", "strconv.ErrRange", "internal/strconv.uint64pow10", "math/bits.deBruijn32tab", "math/bits.deBruijn64tab", "unicode/utf8.first", "unicode/utf8.acceptRanges", "internal/bytealg.MaxLen", "skewer/prog.signs", "skewer/game.results"], apart := false, laid := [("math/bits.deBruijn32tab", laid_math_bits_deBruijn32tab), ("math/bits.deBruijn64tab", laid_math_bits_deBruijn64tab), ("internal/strconv.uint64pow10", laid_internal_strconv_uint64pow10), ("unicode/utf8.acceptRanges", laid_unicode_utf8_acceptRanges), ("strconv.ErrRange", laid_strconv_ErrRange), ("strconv.ErrSyntax", laid_strconv_ErrSyntax), ("skewer/prog.signs", laid_skewer_prog_signs), ("skewer/game.results", laid_skewer_game_results), ("unicode/utf8.first", laid_unicode_utf8_first)], narrowed := true }
def GameMatchesReferenceUptoSaid : Prop := gameMatchesReferenceUptoRow.holds Tryz.pinned (OpenSpec.upto gameMatchesReferenceSpec)

/-- 'skewerlaw03.GameValid', WHERE WHAT IT READS IS OF BULK AT MOST 1048576: true; the input reads as it did. -/
def gameValidUptoRow : OpenClaim := { program := "ytbmcngoeinginaagreatdoor", sum := "1322677b7fea6036211985b583a04a6d96f6122b2a3693451a3652f29c8f98ae", func := "skewer/skewerlaw03.GameValid", spec := "gameValid", inPlace := ["internal/abi.NoEscape", "internal/bytealg.MakeNoZero", "internal/bytealg.CountString", "internal/bytealg.IndexByteString", "internal/bytealg.IndexString"], unfollowed := true, recurses := true, named := ["strconv.ErrSyntax", "strconv.ErrRange", "internal/strconv.uint64pow10", "math/bits.deBruijn32tab", "math/bits.deBruijn64tab", "unicode/utf8.first", "unicode/utf8.acceptRanges", "internal/bytealg.MaxLen", "skewer/prog.signs", "skewer/game.results"], apart := false, laid := [("math/bits.deBruijn32tab", laid_math_bits_deBruijn32tab), ("math/bits.deBruijn64tab", laid_math_bits_deBruijn64tab), ("internal/strconv.uint64pow10", laid_internal_strconv_uint64pow10), ("unicode/utf8.acceptRanges", laid_unicode_utf8_acceptRanges), ("strconv.ErrRange", laid_strconv_ErrRange), ("strconv.ErrSyntax", laid_strconv_ErrSyntax), ("skewer/prog.signs", laid_skewer_prog_signs), ("skewer/game.results", laid_skewer_game_results), ("unicode/utf8.first", laid_unicode_utf8_first)], narrowed := true }
def GameValidUptoSaid : Prop := gameValidUptoRow.holds Tryz.pinned (OpenSpec.upto gameValidSpec)

/-- 'skewerlaw03.GameTexts', WHERE WHAT IT READS IS OF BULK AT MOST 1048576: true; the input reads as it did. -/
def gameTextsUptoRow : OpenClaim := { program := "ytbmcngoeinginaagreatdoor", sum := "1322677b7fea6036211985b583a04a6d96f6122b2a3693451a3652f29c8f98ae", func := "skewer/skewerlaw03.GameTexts", spec := "gameTexts", inPlace := ["internal/abi.NoEscape", "internal/bytealg.MakeNoZero", "internal/bytealg.CountString", "internal/bytealg.IndexByteString", "internal/bytealg.IndexString"], unfollowed := true, recurses := true, named := ["strconv.ErrSyntax", "strconv.ErrRange", "internal/strconv.uint64pow10", "math/bits.deBruijn32tab", "math/bits.deBruijn64tab", "unicode/utf8.first", "unicode/utf8.acceptRanges", "internal/bytealg.MaxLen", "skewer/prog.signs", "skewer/game.results"], apart := false, laid := [("math/bits.deBruijn32tab", laid_math_bits_deBruijn32tab), ("math/bits.deBruijn64tab", laid_math_bits_deBruijn64tab), ("internal/strconv.uint64pow10", laid_internal_strconv_uint64pow10), ("unicode/utf8.acceptRanges", laid_unicode_utf8_acceptRanges), ("strconv.ErrRange", laid_strconv_ErrRange), ("strconv.ErrSyntax", laid_strconv_ErrSyntax), ("skewer/prog.signs", laid_skewer_prog_signs), ("skewer/game.results", laid_skewer_game_results), ("unicode/utf8.first", laid_unicode_utf8_first)], narrowed := true }
def GameTextsUptoSaid : Prop := gameTextsUptoRow.holds Tryz.pinned (OpenSpec.upto gameTextsSpec)

/-- 'skewerlaw03.GameContents', WHERE WHAT IT READS IS OF BULK AT MOST 1048576: true; the input reads as it did. -/
def gameContentsUptoRow : OpenClaim := { program := "ytbmcngoeinginaagreatdoor", sum := "1322677b7fea6036211985b583a04a6d96f6122b2a3693451a3652f29c8f98ae", func := "skewer/skewerlaw03.GameContents", spec := "gameContents", inPlace := ["internal/abi.NoEscape", "internal/bytealg.MakeNoZero", "internal/bytealg.CountString", "internal/bytealg.IndexByteString", "internal/bytealg.IndexString"], unfollowed := true, recurses := true, named := ["strconv.ErrSyntax", "strconv.ErrRange", "internal/strconv.uint64pow10", "math/bits.deBruijn32tab", "math/bits.deBruijn64tab", "unicode/utf8.first", "unicode/utf8.acceptRanges", "internal/bytealg.MaxLen", "skewer/prog.signs", "skewer/game.results"], apart := false, laid := [("math/bits.deBruijn32tab", laid_math_bits_deBruijn32tab), ("math/bits.deBruijn64tab", laid_math_bits_deBruijn64tab), ("internal/strconv.uint64pow10", laid_internal_strconv_uint64pow10), ("unicode/utf8.acceptRanges", laid_unicode_utf8_acceptRanges), ("strconv.ErrRange", laid_strconv_ErrRange), ("strconv.ErrSyntax", laid_strconv_ErrSyntax), ("skewer/prog.signs", laid_skewer_prog_signs), ("skewer/game.results", laid_skewer_game_results), ("unicode/utf8.first", laid_unicode_utf8_first)], narrowed := true }
def GameContentsUptoSaid : Prop := gameContentsUptoRow.holds Tryz.pinned (OpenSpec.upto gameContentsSpec)

/-- 'skewerlaw03.GameNames', WHERE WHAT IT READS IS OF BULK AT MOST 1048576: true; the input reads as it did. -/
def gameNamesUptoRow : OpenClaim := { program := "ytbmcngoeinginaagreatdoor", sum := "1322677b7fea6036211985b583a04a6d96f6122b2a3693451a3652f29c8f98ae", func := "skewer/skewerlaw03.GameNames", spec := "gameNames", inPlace := ["internal/abi.NoEscape", "internal/bytealg.MakeNoZero", "internal/bytealg.CountString", "internal/bytealg.IndexByteString", "internal/bytealg.IndexString"], unfollowed := true, recurses := true, named := ["strconv.ErrSyntax", "strconv.ErrRange", "internal/strconv.uint64pow10", "math/bits.deBruijn32tab", "math/bits.deBruijn64tab", "unicode/utf8.first", "unicode/utf8.acceptRanges", "internal/bytealg.MaxLen", "skewer/prog.signs", "skewer/game.results"], apart := false, laid := [("math/bits.deBruijn32tab", laid_math_bits_deBruijn32tab), ("math/bits.deBruijn64tab", laid_math_bits_deBruijn64tab), ("internal/strconv.uint64pow10", laid_internal_strconv_uint64pow10), ("unicode/utf8.acceptRanges", laid_unicode_utf8_acceptRanges), ("strconv.ErrRange", laid_strconv_ErrRange), ("strconv.ErrSyntax", laid_strconv_ErrSyntax), ("skewer/prog.signs", laid_skewer_prog_signs), ("skewer/game.results", laid_skewer_game_results), ("unicode/utf8.first", laid_unicode_utf8_first)], narrowed := true }
def GameNamesUptoSaid : Prop := gameNamesUptoRow.holds Tryz.pinned (OpenSpec.upto gameNamesSpec)

/-- 'skewerlaw03.GameParts', WHERE WHAT IT READS IS OF BULK AT MOST 1048576: true; the input reads as it did. -/
def gamePartsUptoRow : OpenClaim := { program := "ytbmcngoeinginaagreatdoor", sum := "1322677b7fea6036211985b583a04a6d96f6122b2a3693451a3652f29c8f98ae", func := "skewer/skewerlaw03.GameParts", spec := "gameParts", inPlace := ["internal/abi.NoEscape", "internal/bytealg.MakeNoZero", "internal/bytealg.CountString", "internal/bytealg.IndexByteString", "internal/bytealg.IndexString"], unfollowed := true, recurses := true, named := ["strconv.ErrSyntax", "strconv.ErrRange", "internal/strconv.uint64pow10", "math/bits.deBruijn32tab", "math/bits.deBruijn64tab", "unicode/utf8.first", "unicode/utf8.acceptRanges", "internal/bytealg.MaxLen", "skewer/prog.signs", "skewer/game.results"], apart := false, laid := [("math/bits.deBruijn32tab", laid_math_bits_deBruijn32tab), ("math/bits.deBruijn64tab", laid_math_bits_deBruijn64tab), ("internal/strconv.uint64pow10", laid_internal_strconv_uint64pow10), ("unicode/utf8.acceptRanges", laid_unicode_utf8_acceptRanges), ("strconv.ErrRange", laid_strconv_ErrRange), ("strconv.ErrSyntax", laid_strconv_ErrSyntax), ("skewer/prog.signs", laid_skewer_prog_signs), ("skewer/game.results", laid_skewer_game_results), ("unicode/utf8.first", laid_unicode_utf8_first)], narrowed := true }
def GamePartsUptoSaid : Prop := gamePartsUptoRow.holds Tryz.pinned (OpenSpec.upto gamePartsSpec)

/-- 'skewerlaw03.GameLines', WHERE WHAT IT READS IS OF BULK AT MOST 1048576: true; the input reads as it did. -/
def gameLinesUptoRow : OpenClaim := { program := "ytbmcngoeinginaagreatdoor", sum := "1322677b7fea6036211985b583a04a6d96f6122b2a3693451a3652f29c8f98ae", func := "skewer/skewerlaw03.GameLines", spec := "gameLines", inPlace := ["internal/abi.NoEscape", "internal/bytealg.MakeNoZero", "internal/bytealg.CountString", "internal/bytealg.IndexByteString", "internal/bytealg.IndexString"], unfollowed := true, recurses := true, named := ["strconv.ErrSyntax", "strconv.ErrRange", "internal/strconv.uint64pow10", "math/bits.deBruijn32tab", "math/bits.deBruijn64tab", "unicode/utf8.first", "unicode/utf8.acceptRanges", "internal/bytealg.MaxLen", "skewer/prog.signs", "skewer/game.results"], apart := false, laid := [("math/bits.deBruijn32tab", laid_math_bits_deBruijn32tab), ("math/bits.deBruijn64tab", laid_math_bits_deBruijn64tab), ("internal/strconv.uint64pow10", laid_internal_strconv_uint64pow10), ("unicode/utf8.acceptRanges", laid_unicode_utf8_acceptRanges), ("strconv.ErrRange", laid_strconv_ErrRange), ("strconv.ErrSyntax", laid_strconv_ErrSyntax), ("skewer/prog.signs", laid_skewer_prog_signs), ("skewer/game.results", laid_skewer_game_results), ("unicode/utf8.first", laid_unicode_utf8_first)], narrowed := true }
def GameLinesUptoSaid : Prop := gameLinesUptoRow.holds Tryz.pinned (OpenSpec.upto gameLinesSpec)

end Rows
end Go.Proofs.YtbmcngoeinginaaGreatDoor
