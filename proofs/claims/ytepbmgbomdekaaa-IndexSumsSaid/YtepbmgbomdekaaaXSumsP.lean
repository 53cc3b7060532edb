/-
  For every number the law IndexSums answers true, and leaves its argument as it is. No condition.
-/
import Derived.Test.YtepbmgbomdekaaaXSums
import Derived.Test.YtepbmgbomdekaaaXLift
namespace Go.Proofs.Ytepbmgbomdekaaa
open Go Go.ChangeShapes Go.WideShapes Go.ChangeAt Go.WideMaps Go.WideElems Go.RowKit

theorem xSumsParams : Try.f7.params = #[5] := by kernel_rfl

set_option maxRecDepth 100000 in
theorem xSums_lifted (os : Os) (started : os.Started) (H : Type) (enc : TypeId × Value → H) :
    ReturnsInHanded {} Try.checked os 7 .any (Rows.indexSumsSpec.pre6 enc Try.prog Try.f7 Rows.indexSumsRow.domain false) (Rows.indexSumsSpec.post enc Try.prog Try.f7 false true false false) := by
  refine returnsInHanded_of_change (C := Try.checked) own started (by kernel_rfl) Try.func7
    (ChangeSpec.witness6 (enc := enc) (C := Try.checked) false ⟨#[], #[.int .u8 0], []⟩ 8 (by kernel_rfl) (by kernel_rfl) (by kernel_rfl) (by kernel_rfl)) ?_
  intro W base args ds gs before hval0 hW _ _
  have hval : ∀ (j : Nat) t v, Try.f7.params[j]? = some t → args[j]? = some v → Value.okWide Try.prog W .any base t v := hval0
  have hW' := hW
  obtain ⟨p, q, hA0, hV, rfl, hfz, hnd⟩ := hW
  have hA : DataW.TrodAll enc Try.prog W 0 (fun _ => true) true Try.f7.params.toList args.toList ds p := hA0
  rw [xSumsParams] at hA hval
  obtain ⟨v0, d0, rfl, rfl, h0⟩ := trodAll_one hA
  obtain ⟨rfl, rfl⟩ := trodVars_none hV
  obtain ⟨y0, rfl, rfl, rfl, hw0⟩ := open_int Try.underlying5 (hval 0 5 v0 rfl rfl) h0
  have hc0 := bounds_u8 hw0
  obtain ⟨z0, rfl⟩ := Int.eq_ofNat_of_zero_le hc0.1
  have hb0 : z0 ≤ 255 := by omega
  clear hA0 hval0
  simp only [List.append_nil] at hW'
  have er : Rows.indexSumsSpec.fn H ([.lit (.int .u8 z0)] ++ []) = { results := [.lit (.bool true)], args := [.lit (.int .u8 z0)] } := by simp [Rows.indexSumsSpec]
  refine (sums_any z0 hb0 W).mono fun e W' ⟨he, hnx⟩ => ?_
  subst he
  refine ⟨_, rfl, _, _, _, [], [], [], hW', ?_, ?_, by rw [er]; rfl, hnx.frame _, fun h => by cases h⟩
  · rw [er]; exact trodAll_mk1 (shut_bool Try.underlying4 true)
  · rw [er]; exact trodAll_mk1 (shut_int Try.underlying5 hw0)

theorem xSums_holds : Rows.IndexSumsSaid :=
  OpenClaim.holds_of_wide 7 Try.f7 rfl rfl rfl rfl rfl rfl rfl ⟨rfl, rfl, rfl, rfl, rfl⟩ rfl rfl rfl rfl rfl (by kernel_rfl) Try.func7 (by kernel_rfl)
    (of_decide_eq_true (by kernel_rfl)) (by unfold Func.isWrapper; rw [if_neg (of_decide_eq_false (by kernel_rfl))]; exact ⟨rfl, rfl⟩)
    (fun os started H enc _ => xSums_lifted os started H enc)
#print axioms xSums_holds
end Go.Proofs.Ytepbmgbomdekaaa
