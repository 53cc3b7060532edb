/-
  For all numbers of columns and rows and each number of a cell, at whatever place in memory, BoardGrids of the landed program returns true. No condition beyond the given row.
-/
import Derived.Test.YtccapadoeocebaaDoorGrids
import Derived.Test.YtccapadoeocebaaDoorLift
namespace Go.Proofs.YtccapadoeocebaaDoor
open Go Go.ChangeShapes Go.WideShapes Go.ChangeAt Go.WideMaps Go.WideElems Go.RowKit

theorem gridsParams : Tryd.f9.params = #[52, 52, 5] := by kernel_rfl

set_option maxRecDepth 100000 in
theorem grids_lifted (os : Os) (started : os.Started) (H : Type) (enc : TypeId × Value → H) :
    ReturnsInHanded {} Tryd.checked os 9 .any (fun w args => (Rows.boardGridsSpec.pre enc Tryd.prog Tryd.f9 [] false w args ∧ laidMetH Tryd.prog laidL w) ∧ sizedMet enc Tryd.prog Tryd.f9 (OpenSpec.ofChange Rows.boardGridsSpec) false w args)
      (Rows.boardGridsSpec.post enc Tryd.prog Tryd.f9 false true false false) := by
  refine returnsInHanded_of_change_and (C := Tryd.checked) (X := fun w _ => laidMetH Tryd.prog laidL w) (fun _ _ _ hh h => h.of_heap hh) own started (by kernel_rfl) Tryd.func9
    (ChangeSpec.witness_shaped (enc := enc) (C := Tryd.checked) (os := os) (X := fun w _ => laidMetH Tryd.prog laidL w) false (World.doorLaid Tryd.prog 22 os) #[.int .i8 0, .int .i8 0, .int .u8 0] 8 rfl (World.shaped_of_RefB (by kernel_rfl) (by kernel_rfl)) (by kernel_rfl) (by kernel_rfl) (by kernel_rfl) (door_met os _)) ?_
  intro W base args ds gs before hval0 hW _ _ hL _
  have hval : ∀ (j : Nat) t v, Tryd.f9.params[j]? = some t → args[j]? = some v → Value.okWide Tryd.prog W .any base t v := hval0
  have hW' := hW
  obtain ⟨p, q, hA0, hV, rfl, hfz, hnd⟩ := hW
  have hA : DataW.TrodAll enc Tryd.prog W 0 (fun _ => true) true Tryd.f9.params.toList args.toList ds p := hA0
  rw [gridsParams] at hA hval
  obtain ⟨v0, v1, v2, d0, d1, d2, p0, p1, p2, rfl, rfl, rfl, h0, h1, h2⟩ := trodAll_three hA
  obtain ⟨rfl, rfl⟩ := trodVars_none hV
  obtain ⟨z2, rfl, rfl, rfl, hw2⟩ := open_int Tryd.underlying5 (hval 2 5 v2 rfl rfl) h2
  have hb2 := bounds_u8 hw2
  obtain ⟨z1, rfl, rfl, rfl, hw1⟩ := open_int Tryd.underlying52 (hval 1 52 v1 rfl rfl) h1
  have hb1 := bounds_i8 hw1
  obtain ⟨z0, rfl, rfl, rfl, hw0⟩ := open_int Tryd.underlying52 (hval 0 52 v0 rfl rfl) h0
  have hb0 := bounds_i8 hw0
  have hR := rays_of_laid hL
  clear hA0 hval0
  simp only [List.append_nil] at hW'
  have er : Rows.boardGridsSpec.fn H ([.lit (.int .i8 z0), .lit (.int .i8 z1), .lit (.int .u8 z2)] ++ []) = { results := [.lit (.bool true)], args := [.lit (.int .i8 z0), .lit (.int .i8 z1), .lit (.int .u8 z2)] } := by simp [Rows.boardGridsSpec]
  refine (grids_any z0 z1 z2 hb0 hb1 hb2 W hR).mono fun e W' ⟨he, hnx⟩ => ?_
  subst he
  refine ⟨_, rfl, _, _, _, [], [], [], hW', ?_, ?_, by rw [er]; rfl, hnx.frame _, fun h => by cases h⟩
  · rw [er]; exact trodAll_mk1 (shut_bool Tryd.underlying4 true)
  · rw [er]; exact trodAll_mk3 (shut_int Tryd.underlying52 hw0) (shut_int Tryd.underlying52 hw1) (shut_int Tryd.underlying5 hw2)

theorem grids_row_holds : Rows.BoardGridsSaid :=
  OpenClaim.holds_of_wide 9 Tryd.f9 rfl rfl rfl rfl rfl rfl rfl ⟨rfl, rfl, rfl, rfl, rfl⟩ rfl rfl rfl rfl rfl (by kernel_rfl) Tryd.func9 (by kernel_rfl)
    (of_decide_eq_true (by kernel_rfl)) (by unfold Func.isWrapper; rw [if_neg (of_decide_eq_false (by kernel_rfl))]; exact ⟨rfl, rfl⟩)
    (fun os started H enc _ => grids_lifted os started H enc)

theorem grids_holds : Rows.BoardGridsCardSaid :=
  Claim7.holds_tied_plain_at .later [] [.data] true Rows.boardGridsCard.stood.harness false
    grids_row_holds (fun _ h => by cases h) (by kernel_rfl) (fun _ h => by cases h) boardGrids_row_tie rfl ⟨rfl, rfl⟩ (by kernel_rfl) rfl
    (fun f fn hf hfn => by
      obtain rfl : f = 9 := Option.some.inj ((show Tryd.prog.funcNamed "skewer/skewerlaw01.BoardGrids" = some 9 by kernel_rfl).symm.trans hf) |>.symm
      obtain rfl : fn = Tryd.f9 := (Option.some.inj (Tryd.func9.symm.trans hfn)).symm
      exact ⟨by kernel_rfl, fun j t ht => by
        rw [gridsParams] at ht
        have hm : t ∈ [52, 52, 5] := by simpa using Array.mem_of_getElem? ht
        have hall : ([52, 52, 5].all fun u => !Tryd.prog.wantsStandIn u) = true := by kernel_rfl
        exact (show Tryd.prog.wantsStandIn t = false by simpa using List.all_eq_true.1 hall t hm)⟩)
    (by kernel_rfl)
#print axioms grids_holds
end Go.Proofs.YtccapadoeocebaaDoor
