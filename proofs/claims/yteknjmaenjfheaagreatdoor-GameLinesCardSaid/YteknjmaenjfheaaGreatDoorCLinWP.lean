/-
  For every game and three small numbers, as data, GameLines of the landed program returns true, and its arguments read as before. No condition beyond the given row.
-/
import Derived.Test.YteknjmaenjfheaaGreatDoorCLinW
import Derived.Test.YteknjmaenjfheaaGreatDoorCLiftQ
namespace Go.Proofs.YteknjmaenjfheaaGreatDoor
open Go Go.ChangeShapes Go.WideShapes Go.ChangeAt Go.WideMaps Go.WideElems Go.RowKit

theorem cLinWParams : Tryz.f9.params = #[27, 72] := by kernel_rfl

set_option maxRecDepth 100000 in
theorem cLinW_lifted (os : Os) (started : os.Started) (H : Type) (enc : TypeId × Value → H) :
    ReturnsInHanded {} Tryz.checked os 9 .any (fun w args => (Rows.gameLinesSpec.pre enc Tryz.prog Tryz.f9 [] false w args ∧ laidMetH Tryz.prog laidL w) ∧ sizedMet enc Tryz.prog Tryz.f9 (OpenSpec.ofChange Rows.gameLinesSpec) false w args)
      (Rows.gameLinesSpec.post enc Tryz.prog Tryz.f9 false true false false) := by
  refine returns_laid (C := Tryz.checked) (X := fun w _ => laidMetH Tryz.prog laidL w) (fun _ _ _ hh h => h.of_heap hh) own started (by kernel_rfl) Tryz.func9
    (ChangeSpec.witness_shaped (enc := enc) (C := Tryz.checked) (os := os) (X := fun w _ => laidMetH Tryz.prog laidL w) false (World.laidAll Tryz.prog os laidL) #[.agg #[.int .u8 0, .int .u8 0, .int .u8 0, .slice none 0 0, .slice none 0 0, .slice none 0 0, .int .u8 0, .int .u8 0, .int .u8 0, .int .u8 0, .int .u8 0, .int .u8 0], .agg #[.int .u8 0, .int .u8 0, .int .u8 0]] 8 (World.laidAll_os _ _ _) (World.shaped_of_ZipB (by kernel_rfl) (by kernel_rfl)) (by kernel_rfl) (by kernel_rfl) (by kernel_rfl) (met_all os _)) ?_
  intro W base args ds gs before hval0 hW _ hL hsh
  have hval : ∀ (j : Nat) t v, Tryz.f9.params[j]? = some t → args[j]? = some v → Value.okWide Tryz.prog W .any base t v := hval0
  have hW' := hW
  obtain ⟨p, q, hA0, hV, rfl, hfz, hnd⟩ := hW
  have hA : DataW.TrodAll enc Tryz.prog W 0 (fun _ => true) true Tryz.f9.params.toList args.toList ds p := hA0
  rw [cLinWParams] at hA hval
  obtain ⟨v0, v1, d0, d1, p0, p1, rfl, rfl, rfl, h0, h1⟩ := trodAll_two hA
  obtain ⟨rfl, rfl⟩ := trodVars_none hV
  obtain ⟨x0, a0, b0, e0, c0, ca0, cb0, rfl, hI0⟩ := open_raw (hval 0 27 v0 rfl rfl) h0
  obtain ⟨a1, b1, c1, rfl, wa1, wb1, wc1⟩ := open_three Tryz.underlying72 Tryz.underlying5 (by kernel_rfl) (by kernel_rfl) (hval 1 72 v1 rfl rfl) h1
  have ba1 := bounds_u8 wa1
  have bb1 := bounds_u8 wb1
  have bc1 := bounds_u8 wc1
  obtain ⟨a1, rfl⟩ := Int.eq_ofNat_of_zero_le ba1.1
  obtain ⟨b1, rfl⟩ := Int.eq_ofNat_of_zero_le bb1.1
  obtain ⟨c1, rfl⟩ := Int.eq_ofNat_of_zero_le bc1.1
  have hLB := env_of_laid hL hsh
  clear hA0 hval0
  simp only [List.append_nil] at hW'
  have hlt0 : ∀ x ∈ p0, x.block < W.heap.size := fun x hx => hW'.lt x (by simp [hx])
  have hlt1 : ∀ x ∈ p1, x.block < W.heap.size := fun x hx => hW'.lt x (by simp [hx])
  have er : Rows.gameLinesSpec.fn H ([d0, d1] ++ []) = { results := [.lit (.bool true)], args := [d0, d1] } := by simp [Rows.gameLinesSpec]
  refine (lns_any x0 a0 b0 e0 c0 ca0 cb0 _ a1 b1 c1 W ba1 bb1 (Nat.le_refl _) hI0 hLB.1 hLB.2).mono fun e W' ⟨he, hnx⟩ => ?_
  subst he
  refine ⟨_, rfl, _, _, _, [], p0 ++ p1, [], hW', ?_, ?_, by rw [er]; rfl, hnx.frame _, fun h => by cases h⟩
  · rw [er]; exact trodAll_mk1 (shut_bool Tryz.underlying4 true)
  · rw [er]; exact trodAll_mk2 (Below.trod laidOutT (by kernel_rfl) (of_decide_eq_true (by kernel_rfl)) h0 hnx hlt0) (Below.trod laidOutT (by kernel_rfl) (of_decide_eq_true (by kernel_rfl)) h1 hnx hlt1)

theorem cLinW_row_holds : Rows.GameLinesSaid :=
  OpenClaim.holds_of_wide 9 Tryz.f9 rfl rfl rfl rfl rfl rfl rfl ⟨rfl, rfl, rfl, rfl, rfl⟩ rfl rfl rfl rfl rfl (by kernel_rfl) Tryz.func9 (by kernel_rfl)
    (of_decide_eq_true (by kernel_rfl)) (by unfold Func.isWrapper; rw [if_neg (of_decide_eq_false (by kernel_rfl))]; exact ⟨rfl, rfl⟩)
    (fun os started H enc _ => cLinW_lifted os started H enc)

theorem cLinW_holds : Rows.GameLinesCardSaid :=
  Claim7.holds_tied_plain_at .later [] [.data, .data, .data, .data, .sentinel, .sentinel, .data, .data, .pinned] true Rows.gameLinesCard.stood.harness true
    cLinW_row_holds (fun _ h => by cases h) (by kernel_rfl) (fun _ h => by cases h) gameLines_row_tie rfl ⟨rfl, rfl⟩ (by kernel_rfl) rfl
    (fun f fn hf hfn => by
      obtain rfl : f = 9 := Option.some.inj ((show Tryz.prog.funcNamed "skewer/skewerlaw03.GameLines" = some 9 by kernel_rfl).symm.trans hf) |>.symm
      obtain rfl : fn = Tryz.f9 := (Option.some.inj (Tryz.func9.symm.trans hfn)).symm
      exact ⟨by kernel_rfl, fun j t ht => by
        rw [cLinWParams] at ht
        have hm : t ∈ [27, 72] := by simpa using Array.mem_of_getElem? ht
        have hall : ([27, 72].all fun u => !Tryz.prog.wantsStandIn u) = true := by kernel_rfl
        exact (show Tryz.prog.wantsStandIn t = false by simpa using List.all_eq_true.1 hall t hm)⟩)
    (by kernel_rfl)
#print axioms cLinW_holds
end Go.Proofs.YteknjmaenjfheaaGreatDoor
