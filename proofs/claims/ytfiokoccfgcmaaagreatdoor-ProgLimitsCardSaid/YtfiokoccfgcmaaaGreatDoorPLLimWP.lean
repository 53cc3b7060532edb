/-
  For every byte, every three bytes and every byte, at whatever place in memory, ProgLimits of the landed program returns true, and its arguments read as before. No condition beyond the given row (its listed variables as the text lays them).
-/
import Derived.Test.YtfiokoccfgcmaaaGreatDoorPLLimW
import Derived.Test.YtfiokoccfgcmaaaGreatDoorLiftP
namespace Go.Proofs.YtfiokoccfgcmaaaGreatDoor
open Go Go.ChangeShapes Go.WideShapes Go.ChangeAt Go.WideMaps Go.WideElems Go.RowKit

theorem pLLimWParams : Tryz.f8.params = #[5, 54, 5] := by kernel_rfl

set_option maxRecDepth 100000 in
theorem pLLimW_lifted (os : Os) (started : os.Started) (H : Type) (enc : TypeId × Value → H) :
    ReturnsInHanded {} Tryz.checked os 8 .any (fun w args => (Rows.progLimitsSpec.pre enc Tryz.prog Tryz.f8 [] false w args ∧ laidMetH Tryz.prog laidL w) ∧ sizedMet enc Tryz.prog Tryz.f8 (OpenSpec.ofChange Rows.progLimitsSpec) false w args)
      (Rows.progLimitsSpec.post enc Tryz.prog Tryz.f8 false true false false) := by
  refine returns_laid (C := Tryz.checked) (X := fun w _ => laidMetH Tryz.prog laidL w) (fun _ _ _ hh h => h.of_heap hh) own started (by kernel_rfl) Tryz.func8
    (ChangeSpec.witness_shaped (enc := enc) (C := Tryz.checked) (os := os) (X := fun w _ => laidMetH Tryz.prog laidL w) false (World.laidAll Tryz.prog os laidL) #[.int .u8 0, .agg #[.int .u8 0, .int .u8 0, .int .u8 0], .int .u8 0] 8 (World.laidAll_os _ _ _) (World.shaped_of_ZipB (by kernel_rfl) (by kernel_rfl)) (by kernel_rfl) (by kernel_rfl) (by kernel_rfl) (met_all os _)) ?_
  intro W base args ds gs before hval0 hW _ hL hsh
  have hval : ∀ (j : Nat) t v, Tryz.f8.params[j]? = some t → args[j]? = some v → Value.okWide Tryz.prog W .any base t v := hval0
  have hW' := hW
  obtain ⟨p, q, hA0, hV, rfl, hfz, hnd⟩ := hW
  have hA : DataW.TrodAll enc Tryz.prog W 0 (fun _ => true) true Tryz.f8.params.toList args.toList ds p := hA0
  rw [pLLimWParams] at hA hval
  obtain ⟨v0, v1, v2, d0, d1, d2, p0, p1, p2, rfl, rfl, rfl, h0, h1, h2⟩ := trodAll_three hA
  obtain ⟨rfl, rfl⟩ := trodVars_none hV
  obtain ⟨z0, rfl, rfl, rfl, hw0⟩ := open_int Tryz.underlying5 (hval 0 5 v0 rfl rfl) h0
  have hb0 := bounds_u8 hw0
  obtain ⟨z0, rfl⟩ := Int.eq_ofNat_of_zero_le hb0.1
  obtain ⟨a1, b1, c1, rfl, wa1, wb1, wc1⟩ := open_three Tryz.underlying54 Tryz.underlying5 (by kernel_rfl) c5 (hval 1 54 v1 rfl rfl) h1
  have ba1 := bounds_u8 wa1
  have bb1 := bounds_u8 wb1
  have bc1 := bounds_u8 wc1
  obtain ⟨a1, rfl⟩ := Int.eq_ofNat_of_zero_le ba1.1
  obtain ⟨b1, rfl⟩ := Int.eq_ofNat_of_zero_le bb1.1
  obtain ⟨c1, rfl⟩ := Int.eq_ofNat_of_zero_le bc1.1
  obtain ⟨z2, rfl, rfl, rfl, hw2⟩ := open_int Tryz.underlying5 (hval 2 5 v2 rfl rfl) h2
  have hb2 := bounds_u8 hw2
  obtain ⟨z2, rfl⟩ := Int.eq_ofNat_of_zero_le hb2.1
  have hLB := lib_of_laid hL hsh
  clear hA0 hval0
  simp only [List.append_nil] at hW'
  have hlt1 : ∀ x ∈ p1, x.block < W.heap.size := fun x hx => hW'.lt x (by simp [hx])
  have er : Rows.progLimitsSpec.fn H ([.lit (.int .u8 z0), d1, .lit (.int .u8 z2)] ++ []) = { results := [.lit (.bool true)], args := [.lit (.int .u8 z0), d1, .lit (.int .u8 z2)] } := by simp [Rows.progLimitsSpec]
  refine (plim_any z0 a1 b1 c1 z2 (by omega) (by omega) (by omega) (by omega) (by omega) W hLB).mono fun e W' ⟨he, hnx⟩ => ?_
  subst he
  refine ⟨_, rfl, _, _, _, [], [] ++ (p1 ++ []), [], hW', ?_, ?_, by rw [er]; rfl, hnx.frame _, fun h => by cases h⟩
  · rw [er]; exact trodAll_mk1 (shut_bool Tryz.underlying4 true)
  · rw [er]; exact trodAll_mk3 (shut_int Tryz.underlying5 hw0) (Below.trod laidOutT (by kernel_rfl) (of_decide_eq_true (by kernel_rfl)) h1 hnx hlt1) (shut_int Tryz.underlying5 hw2)

theorem pLLimW_row_holds : Rows.ProgLimitsSaid :=
  OpenClaim.holds_of_wide 8 Tryz.f8 rfl rfl rfl rfl rfl rfl rfl ⟨rfl, rfl, rfl, rfl, rfl⟩ rfl rfl rfl rfl rfl (by kernel_rfl) Tryz.func8 (by kernel_rfl)
    (of_decide_eq_true (by kernel_rfl)) (by unfold Func.isWrapper; rw [if_neg (of_decide_eq_false (by kernel_rfl))]; exact ⟨rfl, rfl⟩)
    (fun os started H enc _ => pLLimW_lifted os started H enc)

theorem pLLimW_holds : Rows.ProgLimitsCardSaid :=
  Claim7.holds_tied_plain_at .later [] [.data, .data, .data, .data, .sentinel, .sentinel, .data, .pinned] true Rows.progLimitsCard.stood.harness true
    pLLimW_row_holds (fun _ h => by cases h) (by kernel_rfl) (fun _ h => by cases h) progLimits_row_tie rfl ⟨rfl, rfl⟩ (by kernel_rfl) rfl
    (fun f fn hf hfn => by
      obtain rfl : f = 8 := Option.some.inj ((show Tryz.prog.funcNamed "skewer/skewerlaw02.ProgLimits" = some 8 by kernel_rfl).symm.trans hf) |>.symm
      obtain rfl : fn = Tryz.f8 := (Option.some.inj (Tryz.func8.symm.trans hfn)).symm
      exact ⟨by kernel_rfl, fun j t ht => by
        rw [pLLimWParams] at ht
        have hm : t ∈ [5, 54, 5] := by simpa using Array.mem_of_getElem? ht
        have hall : ([5, 54, 5].all fun u => !Tryz.prog.wantsStandIn u) = true := by kernel_rfl
        exact (show Tryz.prog.wantsStandIn t = false by simpa using List.all_eq_true.1 hall t hm)⟩)
    (by kernel_rfl)
#print axioms pLLimW_holds
end Go.Proofs.YtfiokoccfgcmaaaGreatDoor
