/-
  No cell of these rows narrows 'for every input' (looked for: loops, veiled, ifaces, maps, wideKeys, modest, calm, conditions, laid).
  DERIVED. THE GIVEN ROWS OF THIS SEAT. 6 by the template 'for every input the law returns true; each argument reads behind the call as it read before'; 0 by the template 'total and deterministic' (their statements: YtepbmgbomdekaaaTotals.lean).
  GIVEN WITH THE SEED: the statements are not yours to turn. If you find one false, say at which input.
  Laid BY PROGRAM, IN A SANDBOX (cutbox-rows.mjs): the forced cells as the released guide's own fill.sh prints them over the translation db3d0d03c5c2e63f… (all of the seat's roots in one cut). By AI agents, Wed Nov 11 2026. No macro, syntax, notation, axiom, sorry.
-/
import Derived.Test.YtepbmgbomdekaaaChecked
import GoSem.Claim
import GoSem.ClaimJoined
import GoSem.ClaimMapViews
import Derived.JoinedTies
import Derived.KernelRfl
namespace Go.Proofs.Ytepbmgbomdekaaa
/- THE CELL 'sum', in the pinned program and in every row, IS THE sha256 OF THE DUMP (.gsa) THAT YtepbmgbomdekaaaProg.lean LOADS. Nothing in Lean hashes anything: it is a label: what it is worth is what the hold of that sum in a sandbox is worth. -/
noncomputable def Try.pinned : Pinned := { name := "ytepbmgbomdekaaa", sum := "db3d0d03c5c2e63fdda42dcfbe10e4f7552ee6a9b48736d23fe5d6d53e3dfd6c", checked := Try.checked }
namespace Rows
def none {H : Type} : Left H := { results := [], args := [] }

/-- 'skewerlaw14.IndexMatchesReference': WHATEVER THE INPUT: true; the input reads as it did. -/
def indexMatchesReferenceSpec : ChangeSpec := { name := "indexMatchesReference", fn := fun _ => fun
  | [d1, d2, d3] => { results := [.lit (.bool true)], args := [d1, d2, d3] }
  | _ => none }
def indexMatchesReferenceRow : OpenClaim := { program := "ytepbmgbomdekaaa", sum := "db3d0d03c5c2e63fdda42dcfbe10e4f7552ee6a9b48736d23fe5d6d53e3dfd6c", func := "skewer/skewerlaw14.IndexMatchesReference", spec := "indexMatchesReference", unfollowed := true, recurses := true, apart := false }
def IndexMatchesReferenceSaid : Prop := indexMatchesReferenceRow.holds Try.pinned (OpenSpec.ofChange indexMatchesReferenceSpec)

/-- ITS FALSE NEIGHBOUR: 'it returns false'. Refute it at one input. -/
def indexMatchesReferenceWrong : ChangeSpec := { name := "indexMatchesReference", fn := fun _ => fun
  | [d1, d2, d3] => { results := [.lit (.bool false)], args := [d1, d2, d3] }
  | _ => none }
def IndexMatchesReferenceWrongFalsely : Prop := indexMatchesReferenceRow.holds Try.pinned (OpenSpec.ofChange indexMatchesReferenceWrong)

/-- 'skewerlaw14.IndexRanks': WHATEVER THE INPUT: true; the input reads as it did. -/
def indexRanksSpec : ChangeSpec := { name := "indexRanks", fn := fun _ => fun
  | [d1, d2] => { results := [.lit (.bool true)], args := [d1, d2] }
  | _ => none }
def indexRanksRow : OpenClaim := { program := "ytepbmgbomdekaaa", sum := "db3d0d03c5c2e63fdda42dcfbe10e4f7552ee6a9b48736d23fe5d6d53e3dfd6c", func := "skewer/skewerlaw14.IndexRanks", spec := "indexRanks", unfollowed := true, recurses := true, apart := false }
def IndexRanksSaid : Prop := indexRanksRow.holds Try.pinned (OpenSpec.ofChange indexRanksSpec)

/-- ITS FALSE NEIGHBOUR: 'it returns false'. Refute it at one input. -/
def indexRanksWrong : ChangeSpec := { name := "indexRanks", fn := fun _ => fun
  | [d1, d2] => { results := [.lit (.bool false)], args := [d1, d2] }
  | _ => none }
def IndexRanksWrongFalsely : Prop := indexRanksRow.holds Try.pinned (OpenSpec.ofChange indexRanksWrong)

/-- 'skewerlaw14.IndexOrder': WHATEVER THE INPUT: true; the input reads as it did. -/
def indexOrderSpec : ChangeSpec := { name := "indexOrder", fn := fun _ => fun
  | [d1, d2, d3] => { results := [.lit (.bool true)], args := [d1, d2, d3] }
  | _ => none }
def indexOrderRow : OpenClaim := { program := "ytepbmgbomdekaaa", sum := "db3d0d03c5c2e63fdda42dcfbe10e4f7552ee6a9b48736d23fe5d6d53e3dfd6c", func := "skewer/skewerlaw14.IndexOrder", spec := "indexOrder", unfollowed := true, recurses := true, apart := false }
def IndexOrderSaid : Prop := indexOrderRow.holds Try.pinned (OpenSpec.ofChange indexOrderSpec)

/-- ITS FALSE NEIGHBOUR: 'it returns false'. Refute it at one input. -/
def indexOrderWrong : ChangeSpec := { name := "indexOrder", fn := fun _ => fun
  | [d1, d2, d3] => { results := [.lit (.bool false)], args := [d1, d2, d3] }
  | _ => none }
def IndexOrderWrongFalsely : Prop := indexOrderRow.holds Try.pinned (OpenSpec.ofChange indexOrderWrong)

/-- 'skewerlaw14.IndexAll': WHATEVER THE INPUT: true; the input reads as it did. -/
def indexAllSpec : ChangeSpec := { name := "indexAll", fn := fun _ => fun
  | [d1, d2] => { results := [.lit (.bool true)], args := [d1, d2] }
  | _ => none }
def indexAllRow : OpenClaim := { program := "ytepbmgbomdekaaa", sum := "db3d0d03c5c2e63fdda42dcfbe10e4f7552ee6a9b48736d23fe5d6d53e3dfd6c", func := "skewer/skewerlaw14.IndexAll", spec := "indexAll", unfollowed := true, recurses := true, apart := false }
def IndexAllSaid : Prop := indexAllRow.holds Try.pinned (OpenSpec.ofChange indexAllSpec)

/-- ITS FALSE NEIGHBOUR: 'it returns false'. Refute it at one input. -/
def indexAllWrong : ChangeSpec := { name := "indexAll", fn := fun _ => fun
  | [d1, d2] => { results := [.lit (.bool false)], args := [d1, d2] }
  | _ => none }
def IndexAllWrongFalsely : Prop := indexAllRow.holds Try.pinned (OpenSpec.ofChange indexAllWrong)

/-- 'skewerlaw14.IndexSums': WHATEVER THE INPUT: true; the input reads as it did. -/
def indexSumsSpec : ChangeSpec := { name := "indexSums", fn := fun _ => fun
  | [d] => { results := [.lit (.bool true)], args := [d] }
  | _ => none }
def indexSumsRow : OpenClaim := { program := "ytepbmgbomdekaaa", sum := "db3d0d03c5c2e63fdda42dcfbe10e4f7552ee6a9b48736d23fe5d6d53e3dfd6c", func := "skewer/skewerlaw14.IndexSums", spec := "indexSums", unfollowed := true, recurses := true, apart := false }
def IndexSumsSaid : Prop := indexSumsRow.holds Try.pinned (OpenSpec.ofChange indexSumsSpec)

/-- ITS FALSE NEIGHBOUR: 'it returns false'. Refute it at one input. -/
def indexSumsWrong : ChangeSpec := { name := "indexSums", fn := fun _ => fun
  | [d] => { results := [.lit (.bool false)], args := [d] }
  | _ => none }
def IndexSumsWrongFalsely : Prop := indexSumsRow.holds Try.pinned (OpenSpec.ofChange indexSumsWrong)

/-- 'skewerlaw14.IndexLimits': WHATEVER THE INPUT: true; the input reads as it did. -/
def indexLimitsSpec : ChangeSpec := { name := "indexLimits", fn := fun _ => fun
  | [d1, d2] => { results := [.lit (.bool true)], args := [d1, d2] }
  | _ => none }
def indexLimitsRow : OpenClaim := { program := "ytepbmgbomdekaaa", sum := "db3d0d03c5c2e63fdda42dcfbe10e4f7552ee6a9b48736d23fe5d6d53e3dfd6c", func := "skewer/skewerlaw14.IndexLimits", spec := "indexLimits", unfollowed := true, recurses := true, apart := false }
def IndexLimitsSaid : Prop := indexLimitsRow.holds Try.pinned (OpenSpec.ofChange indexLimitsSpec)

/-- ITS FALSE NEIGHBOUR: 'it returns false'. Refute it at one input. -/
def indexLimitsWrong : ChangeSpec := { name := "indexLimits", fn := fun _ => fun
  | [d1, d2] => { results := [.lit (.bool false)], args := [d1, d2] }
  | _ => none }
def IndexLimitsWrongFalsely : Prop := indexLimitsRow.holds Try.pinned (OpenSpec.ofChange indexLimitsWrong)

/- THE SECOND FORM. 'bulk': how many values and letters a reading holds, each counted each time it is reached (what is shared counts as often as it is met; a slice's spare places count too). A statement '..UptoSaid' is the law's where the arguments, and the package variables that the reading takes, are together of bulk at most 1048576: NARROWER than '..Said'. Prove '..Said' where nothing that the law and all that it calls make is longer than what came in: it says more and counts as full. Else prove '..UptoSaid'. A law counts once. -/
mutual
def uptoBulk {H : Type} : DataW H → Nat
  | .lit (.string bytes) => bytes.length + 1
  | .lit _ => 1
  | .nil => 1
  | .ptr d => uptoBulk d + 1
  | .slice elems spare => uptoBulkAll elems + uptoBulkAll spare + 1
  | .agg parts => uptoBulkAll parts + 1
  | .iface _ d => uptoBulk d + 1
  | .map entries => uptoBulkEntries entries + 1
  | .held _ => 1
def uptoBulkAll {H : Type} : List (DataW H) → Nat
  | [] => 0
  | d :: r => uptoBulk d + uptoBulkAll r
def uptoBulkEntries {H : Type} : List (Lit × DataW H) → Nat
  | [] => 0
  | x :: r => uptoBulkEntry x + uptoBulkEntries r
def uptoBulkEntry {H : Type} : Lit × DataW H → Nat
  | (.string bytes, d) => bytes.length + uptoBulk d + 1
  | (_, d) => uptoBulk d + 1
 end
def uptoSmall : (H : Type) → List (DataW H) → Bool := fun _ ds => decide (uptoBulkAll ds ≤ 1048576)
def OpenSpec.upto (s : _root_.Go.ChangeSpec) : _root_.Go.OpenSpec := { _root_.Go.OpenSpec.ofChange s with cond := some uptoSmall }

/-- 'skewerlaw14.IndexMatchesReference', WHERE WHAT IT READS IS OF BULK AT MOST 1048576: true; the input reads as it did. -/
def indexMatchesReferenceUptoRow : OpenClaim := { program := "ytepbmgbomdekaaa", sum := "db3d0d03c5c2e63fdda42dcfbe10e4f7552ee6a9b48736d23fe5d6d53e3dfd6c", func := "skewer/skewerlaw14.IndexMatchesReference", spec := "indexMatchesReference", unfollowed := true, recurses := true, apart := false, narrowed := true }
def IndexMatchesReferenceUptoSaid : Prop := indexMatchesReferenceUptoRow.holds Try.pinned (OpenSpec.upto indexMatchesReferenceSpec)

/-- 'skewerlaw14.IndexRanks', WHERE WHAT IT READS IS OF BULK AT MOST 1048576: true; the input reads as it did. -/
def indexRanksUptoRow : OpenClaim := { program := "ytepbmgbomdekaaa", sum := "db3d0d03c5c2e63fdda42dcfbe10e4f7552ee6a9b48736d23fe5d6d53e3dfd6c", func := "skewer/skewerlaw14.IndexRanks", spec := "indexRanks", unfollowed := true, recurses := true, apart := false, narrowed := true }
def IndexRanksUptoSaid : Prop := indexRanksUptoRow.holds Try.pinned (OpenSpec.upto indexRanksSpec)

/-- 'skewerlaw14.IndexOrder', WHERE WHAT IT READS IS OF BULK AT MOST 1048576: true; the input reads as it did. -/
def indexOrderUptoRow : OpenClaim := { program := "ytepbmgbomdekaaa", sum := "db3d0d03c5c2e63fdda42dcfbe10e4f7552ee6a9b48736d23fe5d6d53e3dfd6c", func := "skewer/skewerlaw14.IndexOrder", spec := "indexOrder", unfollowed := true, recurses := true, apart := false, narrowed := true }
def IndexOrderUptoSaid : Prop := indexOrderUptoRow.holds Try.pinned (OpenSpec.upto indexOrderSpec)

/-- 'skewerlaw14.IndexAll', WHERE WHAT IT READS IS OF BULK AT MOST 1048576: true; the input reads as it did. -/
def indexAllUptoRow : OpenClaim := { program := "ytepbmgbomdekaaa", sum := "db3d0d03c5c2e63fdda42dcfbe10e4f7552ee6a9b48736d23fe5d6d53e3dfd6c", func := "skewer/skewerlaw14.IndexAll", spec := "indexAll", unfollowed := true, recurses := true, apart := false, narrowed := true }
def IndexAllUptoSaid : Prop := indexAllUptoRow.holds Try.pinned (OpenSpec.upto indexAllSpec)

/-- 'skewerlaw14.IndexSums', WHERE WHAT IT READS IS OF BULK AT MOST 1048576: true; the input reads as it did. -/
def indexSumsUptoRow : OpenClaim := { program := "ytepbmgbomdekaaa", sum := "db3d0d03c5c2e63fdda42dcfbe10e4f7552ee6a9b48736d23fe5d6d53e3dfd6c", func := "skewer/skewerlaw14.IndexSums", spec := "indexSums", unfollowed := true, recurses := true, apart := false, narrowed := true }
def IndexSumsUptoSaid : Prop := indexSumsUptoRow.holds Try.pinned (OpenSpec.upto indexSumsSpec)

/-- 'skewerlaw14.IndexLimits', WHERE WHAT IT READS IS OF BULK AT MOST 1048576: true; the input reads as it did. -/
def indexLimitsUptoRow : OpenClaim := { program := "ytepbmgbomdekaaa", sum := "db3d0d03c5c2e63fdda42dcfbe10e4f7552ee6a9b48736d23fe5d6d53e3dfd6c", func := "skewer/skewerlaw14.IndexLimits", spec := "indexLimits", unfollowed := true, recurses := true, apart := false, narrowed := true }
def IndexLimitsUptoSaid : Prop := indexLimitsUptoRow.holds Try.pinned (OpenSpec.upto indexLimitsSpec)

end Rows
end Go.Proofs.Ytepbmgbomdekaaa
