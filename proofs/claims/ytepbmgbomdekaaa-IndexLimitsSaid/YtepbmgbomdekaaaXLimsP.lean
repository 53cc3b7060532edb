/-
  For every three bytes and every less the law IndexLimits answers true, and leaves its arguments as they are. No condition.
-/
import Derived.Test.YtepbmgbomdekaaaXLims
import Derived.Test.YtepbmgbomdekaaaXLift
namespace Go.Proofs.Ytepbmgbomdekaaa
open Go Go.ChangeShapes Go.WideShapes Go.ChangeAt Go.WideMaps Go.WideElems Go.RowKit

theorem xLimsParams : Try.f8.params = #[62, 63] := by kernel_rfl

set_option maxRecDepth 100000 in
theorem xLims_lifted (os : Os) (started : os.Started) (H : Type) (enc : TypeId × Value → H) :
    ReturnsInHanded {} Try.checked os 8 .any (Rows.indexLimitsSpec.pre6 enc Try.prog Try.f8 Rows.indexLimitsRow.domain false) (Rows.indexLimitsSpec.post enc Try.prog Try.f8 false true false false) := by
  refine returnsInHanded_of_change (C := Try.checked) own started (by kernel_rfl) Try.func8
    (ChangeSpec.witness6 (enc := enc) (C := Try.checked) false ⟨#[], #[.agg #[.int .u8 0, .int .u8 0, .int .u8 0], .int .i8 0], []⟩ 8 (by kernel_rfl) (by kernel_rfl) (by kernel_rfl) (by kernel_rfl)) ?_
  intro W base args ds gs before hval0 hW _ _
  have hval : ∀ (j : Nat) t v, Try.f8.params[j]? = some t → args[j]? = some v → Value.okWide Try.prog W .any base t v := hval0
  have hW' := hW
  obtain ⟨p, q, hA0, hV, rfl, hfz, hnd⟩ := hW
  have hA : DataW.TrodAll enc Try.prog W 0 (fun _ => true) true Try.f8.params.toList args.toList ds p := hA0
  rw [xLimsParams] at hA hval
  obtain ⟨v0, v1, d0, d1, p0, p1, rfl, rfl, rfl, h0, h1⟩ := trodAll_two hA
  obtain ⟨rfl, rfl⟩ := trodVars_none hV
  obtain ⟨va0, vb0, vc0, rfl, ba0, bb0, bc0⟩ := open_u8x3 (hval 0 62 v0 rfl rfl) h0
  obtain ⟨z1, rfl, rfl, rfl, hw1⟩ := open_int Try.underlying63 (hval 1 63 v1 rfl rfl) h1
  have hb1 := bounds_i8 hw1
  clear hA0 hval0
  simp only [List.append_nil] at hW'
  have hlt0 : ∀ x ∈ p0, x.block < W.heap.size := fun x hx => hW'.lt x (by simp [hx])
  have er : Rows.indexLimitsSpec.fn H ([d0, .lit (.int .i8 z1)] ++ []) = { results := [.lit (.bool true)], args := [d0, .lit (.int .i8 z1)] } := by simp [Rows.indexLimitsSpec]
  refine (lims_any va0 vb0 vc0 z1 ba0 bb0 bc0 hb1 W).mono fun e W' ⟨he, hnx⟩ => ?_
  subst he
  refine ⟨_, rfl, _, _, _, [], p0 ++ [], [], hW', ?_, ?_, by rw [er]; rfl, hnx.frame _, fun h => by cases h⟩
  · rw [er]; exact trodAll_mk1 (shut_bool Try.underlying4 true)
  · rw [er]; exact trodAll_mk2 (Below.trod laidOutT (by kernel_rfl) (of_decide_eq_true (by kernel_rfl)) h0 hnx hlt0) (shut_int Try.underlying63 hw1)

theorem xLims_holds : Rows.IndexLimitsSaid :=
  OpenClaim.holds_of_wide 8 Try.f8 rfl rfl rfl rfl rfl rfl rfl ⟨rfl, rfl, rfl, rfl, rfl⟩ rfl rfl rfl rfl rfl (by kernel_rfl) Try.func8 (by kernel_rfl)
    (of_decide_eq_true (by kernel_rfl)) (by unfold Func.isWrapper; rw [if_neg (of_decide_eq_false (by kernel_rfl))]; exact ⟨rfl, rfl⟩)
    (fun os started H enc _ => xLims_lifted os started H enc)
#print axioms xLims_holds
end Go.Proofs.Ytepbmgbomdekaaa
