/-
  ProgTexts returns true.
-/
import Derived.Test.YtidgdfjnjgonoaaGreatDoorPLTextsA
import Derived.Test.YtidgdfjnjgonoaaGreatDoorPSan
import Derived.Test.YtidgdfjnjgonoaaGreatDoorPTextM
import Derived.Test.YtidgdfjnjgonoaaGreatDoorPRefM
import Derived.Test.YtidgdfjnjgonoaaGreatDoorLiftQ
import Derived.Test.YtidgdfjnjgonoaaGreatDoorPLMore
import Derived.Test.YtidgdfjnjgonoaaGreatDoorQValid
import Derived.Deep.DeepCutAuto
namespace Go.Proofs.YtidgdfjnjgonoaaGreatDoor
open Go Go.RowKit Go.Sort Go.Lib

theorem steps_42 : (stepsQ 80).length = 42 := by decide +kernel
/-- The first q steps that the pairs pick. -/
def pickS (S : List (Int × Int)) (raw : List (Nat × Nat)) : Nat → List (Int × Int)
  | 0 => []
  | q + 1 => pickS S raw q ++ [S[(raw[q]?.getD (0, 0)).1 % S.length]?.getD (0, 0)]
theorem pick_len (S : List (Int × Int)) (raw : List (Nat × Nat)) : ∀ q, (pickS S raw q).length = q
  | 0 => rfl
  | q + 1 => by simp [pickS, pick_len S raw q]
theorem same_b (l m : List (Int × Int)) (a a2 : Option Addr) (ct c2 : Nat) (w : World) (hl : l.length ≤ 2000) (hI : Prg w.heap.size w a l) (hI2 : Prg w.heap.size w a2 m) :
    Calls Tryz.prog 24 #[.slice a l.length ct, .slice a2 m.length c2] w fun e w' => e = .returned (.bool (decide (l = m))) ∧ Below w.heap.size w w' := by
  refine (same_any l m a a2 ct c2 w.heap.size w hl hI hI2).mono ?_
  rintro e w' ⟨rfl, q, rfl⟩
  exact ⟨rfl, below_drewN_ (Below.refl _ _) _⟩
theorem text_eq {a b : List (Int × Int)} (ha : validP a 8 6 4 = true) (hb : validP b 8 6 4 = true) : (printS a == printS b) = decide (a = b) := by
  rw [Bool.eq_iff_iff]
  simp [print_inj ha hb]
theorem parse_pr {l : List (Int × Int)} (h : validP l 8 6 4 = true) (w : World) (hL : LibIn w) :
    Calls Tryz.prog 23 #[.string ⟨(printS l).toArray⟩] w fun e w' => ∃ a c, e = .returned (.tuple #[.slice a l.length c, .int .i64 0]) ∧ Prg w'.heap.size w' a l ∧ Below w.heap.size w w' := by
  have hlen : (printS l).length ≤ 100 := by
    unfold printS
    rw [if_pos h]
    exact print_len h
  refine (parse_any (printS l) (by omega) w hL).mono ?_
  rw [parse_print h]
  rintro e w' ⟨v, rfl, hown, hb⟩
  obtain ⟨a, c, rfl, hp⟩ := hown.prg
  exact ⟨a, c, rfl, hp, hb⟩

set_option maxRecDepth 100000 in
set_option maxHeartbeats 4000000 in
theorem ptexts_any (l m : List Nat) (al am : Option Addr) (cl cm N : Nat) (raw : List (Nat × Nat)) (ar : Option Addr) (cr : Nat) (w : World) (hL : LibIn w) (hN : N ≤ w.heap.size) (hI : U8s N w al l) (hM : U8s N w am m) (hR : Prs N w ar raw) :
    Calls Tryz.prog 4 #[.agg #[.slice al l.length cl, .slice am m.length cm], .slice ar raw.length cr] w fun e w' => e = .returned (.bool true) ∧ Below w.heap.size w w' := by
  have hS8 : ∀ x ∈ stepsQ 80, okStep 8 6 4 x = true := fun x hx => by unfold stepsQ at hx; exact (List.mem_filter.1 hx).2
  have hSL := steps_42
  go_enter Tryz.func4, Tryz.ntmps4
  go_wp2_with fail
  have b0 : Below w.heap.size w (w.alloc (.cells #[.slice al l.length cl, .slice am m.length cm] 37)) := below_alloc (Below.refl _ _) _
  have x0 : (w.alloc (.cells #[.slice al l.length cl, .slice am m.length cm] 37)).cell? ⟨w.heap.size, 0, none⟩ = some (.slice al l.length cl) := cell_new_at _ _ _ _ _ _ rfl rfl
  have x1 : (w.alloc (.cells #[.slice al l.length cl, .slice am m.length cm] 37)).cell? ⟨w.heap.size, 1, none⟩ = some (.slice am m.length cm) := cell_new_at _ _ _ _ _ _ rfl rfl
  generalize w.alloc (.cells #[.slice al l.length cl, .slice am m.length cm] 37) = w0 at *
  refine (sanity_any w0 (hL.up b0)).mono ?_
  rintro e w1 ⟨rfl, hb1⟩
  have hbw := below_step b0 hb1
  replace x0 := cell_keep hb1 x0
  replace x1 := cell_keep hb1 x1
  have HL1 := Lib.hid (hL.up hbw)
  have HI1 := Lib.hid (hI.up hN hbw)
  have HM1 := Lib.hid (hM.up hN hbw)
  have HR1 := Lib.hid (hR.up hN hbw)
  have hN1 := Nat.le_trans hN hbw.size
  clear b0 hb1 hL hI hM hR
  have HVA := Lib.hid (lib_valid l)
  have HVB := Lib.hid (lib_valid m)
  have hlA := lib_len l
  have hlB := lib_len m
  go_upto_region 2 with (fail)
  refine texts_r2 l m al am cl cm N w.heap.size w1 _ _ _ _ _ _ _ _ _ _ _ _ _ _ _ _ _ _ _ _ _ _ _ _ _ _ _ _ _ _ _ _ _ _ _ _ _ _ _ _ _ _ _ _ _ _ _ _ _ _ _ _ _ _ _ _ _ _ _ _ _ _ _ _ _ _ _ _ _ _ _ _ _ _ _ _ _ _ _ _ _ _ _ _ _ _ _ _ _ _ _ _ _ _ _ _ _ _ _ _ _ _ _ _ _ _ hN1 HI1 HM1 x0 x1 (Lib.hid ?_)
  intro s16 s17 s18 s19 s20 s21 gA capA gB capB w2 hpA hpB hb2
  have hbw2 := below_step hbw hb2
  have HL2 := Lib.hid (HL1.out.up hb2)
  have HPA := Lib.hid hpA
  have HPB := Lib.hid hpB
  have HR2 := Lib.hid (HR1.out.up hN1 hb2)
  have hN2 := Nat.le_trans hN1 hb2.size
  generalize libS l = A at *
  generalize libS m = B at *
  clear x0 x1 HL1 HI1 HM1 HR1 hbw hb2 hpA hpB hN1
  go_wp2_with fail
  refine (steps_any w2).mono ?_
  rintro e w3 ⟨v, rfl, hown, hb3⟩
  generalize stepsQ 80 = S at *
  obtain ⟨gS, capS, rfl, _, _⟩ := hown.some_of (by omega)
  obtain ⟨_, _, e, hprg⟩ := hown.prg
  cases e
  have HPS := Lib.hid (show Prg w3.heap.size w3 (some ⟨gS, 0, none⟩) S from hprg)
  have HS8 := Lib.hid hS8
  have HSL := Lib.hid hSL
  have hSI : (S.length : Int) ≤ 42 := by omega
  have hSI2 : (42 : Int) ≤ (S.length : Int) := by omega
  have hbw3 := below_step hbw2 hb3
  have HL3 := Lib.hid (HL2.out.up hb3)
  have HPA3 := Lib.hid (HPA.out.later' hb3)
  have HPB3 := Lib.hid (HPB.out.later' hb3)
  have HR3 := Lib.hid (HR2.out.up hN2 hb3)
  have hN3 := Nat.le_trans hN2 hb3.size
  clear hown hprg hS8 hSL HL2 HPA HPB HR2 hbw2 hb3 hN2
  have hE : Below w3.heap.size w3 (w3.alloc (.cells #[] 41)) := below_alloc (Below.refl _ _) _
  have hoE := ownP_empty w3 w3.heap.size rfl
  go_wp2_with fail
  generalize w3.alloc (.cells #[] 41) = w4 at *
  go_loopw [9, 10] (fun o i wr => ∃ q : Nat, q ≤ raw.length ∧ q ≤ 8 ∧ i = .int .i64 q ∧ OwnStp w3.heap.size wr o (pickS S raw q) ∧ Below w3.heap.size w3 wr)
    (fun _ i _ => 8 - (intOf i).toNat)
  case atStart => exact ⟨0, Nat.zero_le _, by omega, rfl, hoE, hE⟩
  case round =>
    clear hoE hE
    obtain ⟨q, hq, hq8, rfl, ho, hbr⟩ := hrel
    by_cases hlt : q < raw.length ∧ q < 8
    · obtain ⟨hlt1, hlt8⟩ := hlt
      obtain ⟨br, fr, hab, hbN, hc0, _⟩ := (HR3.out.up hN3 hbr).at_ hlt1
      subst hab
      have hz := (HR3.out.1 q).1
      have hpk : pickS S raw (q + 1) = pickS S raw q ++ [S[(raw[q]?.getD (0, 0)).1 % S.length]?.getD (0, 0)] := rfl
      have hbw4 : br < wr.heap.size := by have := hbr.size; omega
      generalize (raw[q]?.getD (0, 0)).1 = z at *
      obtain ⟨j, hj⟩ : ∃ j, j = z % S.length := ⟨_, rfl⟩
      have hjS : j < S.length := by rw [hj]; exact Nat.mod_lt _ (by omega)
      have hzj : (z : Int) % (S.length : Int) = (j : Int) := by rw [hj]; simp
      rw [← hj] at hpk
      obtain ⟨bs, fs, hab, hbN2, hop, hnn⟩ := (HPS.out.later' hbr).at_ hjS
      cases hab
      rw [Nat.zero_add] at hop hnn
      generalize S[j]?.getD (0, 0) = x at hop hnn hpk
      obtain ⟨op, n⟩ := x
      dsimp only at hop hnn
      have HPK := Lib.hid hpk
      have hpl := pick_len S raw q
      generalize pickS S raw q = C at *
      have HC := Lib.hid (show C.length < 2000 by omega)
      have hb7 : Below wr.heap.size wr (wr.alloc (.cells #[.int .i64 op, .int .i64 n] 41)) := below_alloc (Below.refl _ _) _
      have HO7 := Lib.hid (ho.below hb7)
      have HB7 := Lib.hid (below_step hbr hb7)
      have HPX := Lib.hid (prg_lit wr wr.heap.size op n rfl)
      clear hpk hj hpl ho hb7
      go_wp2_with (at_builtin; go_loud (refine wpList_pushB rfl 26 ty_prog (.tmp 34) (.tmp 47) rfl w3 HB7.out _ _ C rfl HO7.out HC.out wr.heap.size 0 1 1 [(op, n)] rfl rfl (by simp) HPX.out ?_; intro v8 w8 ho8 hb8 hg8))
      clear hg8
      go_roundw
      case rel => exact ⟨q + 1, by omega, by omega, by simp, by rw [HPK.out]; exact ho8, hb8⟩
      case measure => simp [intOf]; omega
    · have hpl := pick_len S raw q
      generalize pickS S raw q = C at *
      obtain ⟨aC, cC, rfl, hpC⟩ := ho.prg
      have HRV := Lib.hid (rvalid_any C aC cC 8 6 4 wr.heap.size wr (by omega) (Nat.le_refl _) hpC)
      have HPC := Lib.hid hpC
      have hC8 : C.length ≤ 8 := by omega
      clear ho hpC hpl
      rcases (show ¬ q < raw.length ∨ (q < raw.length ∧ ¬ q < 8) by omega) with h1 | ⟨h1, h2⟩
      all_goals
        clear hlt
        go_wp2_with fail
        refine HRV.out.mono ?_
        rintro e w5 ⟨rfl, hb5⟩
        have hbr5 := below_step hbr hb5
        have HPC5 := Lib.hid (HPC.out.later' hb5)
        go_upto_if 51 with (fail)
        go_cut [9] (fun s wx => ∃ D aD cD, s = .slice aD (List.length D) cD ∧ D.length ≤ 8 ∧ validP D 8 6 4 = true ∧ Prg wx.heap.size wx aD D ∧ Below w3.heap.size w3 wx)
        case first =>
          cases hv : validP C 8 6 4 with
          | true =>
            have HV := Lib.hid hv
            clear hv
            go_wp2
            go_meet
            case rel => exact ⟨C, aC, cC, rfl, hC8, HV.out, HPC5.out, hbr5⟩
          | false =>
            have HV := Lib.hid hv
            clear hv
            go_wp2
            go_meet
            case rel => exact ⟨A, some ⟨gA, 0, none⟩, capA, rfl, by omega, HVA.out, HPA3.out.later' hbr5, hbr5⟩
        case rest =>
          obtain ⟨D, aD, cD, rfl, hD8, hvD, hpD, hbc⟩ := hcut
          have HVD := Lib.hid hvD
          have HPD := Lib.hid hpD
          clear hvD hpD HRV HPC HPC5 HR3 HPS HS8 HSL
          go_wp2_with fail
          refine (print_any A (some ⟨gA, 0, none⟩) capA wc.heap.size wc (Nat.le_refl _) (HPA3.out.later' hbc) (HL3.out.up hbc).signs).mono ?_
          rintro e wa ⟨rfl, hba⟩
          have ha := below_step hbc hba
          go_wp2_with fail
          refine (parse_pr HVA.out wa (HL3.out.up ha)).mono ?_
          rintro e wb ⟨ap, cp, rfl, hpp, hbb⟩
          have hb := below_step ha hbb
          have HPP := Lib.hid hpp
          have hcb := below_step hba hbb
          clear hpp
          go_wp2_with fail
          refine (print_any D aD cD wb.heap.size wb (Nat.le_refl _) (HPD.out.later' hcb) (HL3.out.up hb).signs).mono ?_
          rintro e wd ⟨rfl, hbd⟩
          have hd := below_step hb hbd
          go_wp2_with fail
          refine (parse_pr HVD.out wd (HL3.out.up hd)).mono ?_
          rintro e wf ⟨aq, cq, rfl, hpq, hbf⟩
          have hf := below_step hd hbf
          have HQA := Lib.hid (HPA3.out.later' hf)
          have HQB := Lib.hid (HPB3.out.later' hf)
          have HQD := Lib.hid (HPD.out.later' (below_step hcb (below_step hbd hbf)))
          have HQP := Lib.hid (HPP.out.later' (below_step hbd hbf))
          have HQQ := Lib.hid hpq
          have HLF := Lib.hid (HL3.out.up hf)
          have hbwf := below_step hbw3 hf
          clear hpq hba hbb hbd hbf hcb ha hb hd hf hbc HPD HPP HPA3 HPB3 HL3
          have K1 := Lib.hid (fun W (h : Below wf.heap.size wf W) => same_b A A ap (some ⟨gA, 0, none⟩) cp capA W (by omega) (HQP.out.later' h) (HQA.out.later' h))
          have K2 := Lib.hid (fun W (h : Below wf.heap.size wf W) => same_b D D aq aD cq cD W (by omega) (HQQ.out.later' h) (HQD.out.later' h))
          have K3 := Lib.hid (fun W (h : Below wf.heap.size wf W) => print_any A (some ⟨gA, 0, none⟩) capA W.heap.size W (Nat.le_refl _) (HQA.out.later' h) (HLF.out.up h).signs)
          have K4 := Lib.hid (fun W (h : Below wf.heap.size wf W) => print_any B (some ⟨gB, 0, none⟩) capB W.heap.size W (Nat.le_refl _) (HQB.out.later' h) (HLF.out.up h).signs)
          have K5 := Lib.hid (fun W (h : Below wf.heap.size wf W) => same_b A B (some ⟨gA, 0, none⟩) (some ⟨gB, 0, none⟩) capA capB W (by omega) (HQA.out.later' h) (HQB.out.later' h))
          have K6 := Lib.hid (fun W (h : Below wf.heap.size wf W) => print_any D aD cD W.heap.size W (Nat.le_refl _) (HQD.out.later' h) (HLF.out.up h).signs)
          have K7 := Lib.hid (fun W (h : Below wf.heap.size wf W) => same_b A D (some ⟨gA, 0, none⟩) aD capA cD W (by omega) (HQA.out.later' h) (HQD.out.later' h))
          have hAB := text_eq HVA.out HVB.out
          have hAD := text_eq HVA.out HVD.out
          have tA : decide (A = A) = true := by simp
          have tD : decide (D = D) = true := by simp
          rw [tA] at K1
          rw [tD] at K2
          generalize printS A = pA at *
          generalize printS B = pB at *
          generalize printS D = pD at *
          generalize decide (A = B) = sAB at *
          generalize decide (A = D) = sAD at *
          have h0 : Below wf.heap.size wf wf := Below.refl _ _
          clear tA tD
          go_wp2_with fail
          refine (K1.out _ h0).mono ?_
          rintro e v1 ⟨rfl, k1⟩
          have h1 := below_step h0 k1
          clear k1
          go_wp2_with fail
          refine (K2.out _ h1).mono ?_
          rintro e v2 ⟨rfl, k2⟩
          have h2 := below_step h1 k2
          clear k2
          go_wp2_with fail
          refine (K3.out _ h2).mono ?_
          rintro e v3 ⟨rfl, k3⟩
          have h3 := below_step h2 k3
          clear k3
          go_wp2_with fail
          refine (K4.out _ h3).mono ?_
          rintro e v4 ⟨rfl, k4⟩
          have h4 := below_step h3 k4
          clear k4
          go_wp2_with fail
          refine (K5.out _ h4).mono ?_
          rintro e v5 ⟨rfl, k5⟩
          have h5 := below_step h4 k5
          clear k5
          go_wp2_with fail
          refine (K3.out _ h5).mono ?_
          rintro e v6 ⟨rfl, k6⟩
          have h6 := below_step h5 k6
          clear k6
          go_wp2_with fail
          refine (K6.out _ h6).mono ?_
          rintro e v7 ⟨rfl, k7⟩
          have h7 := below_step h6 k7
          clear k7
          go_wp2_with fail
          refine (K7.out _ h7).mono ?_
          rintro e v8 ⟨rfl, k8⟩
          have h8 := below_step h7 k8
          clear k8
          go_wp2
          go_ret
          exact ⟨rfl, below_step hbwf h8⟩
end Go.Proofs.YtidgdfjnjgonoaaGreatDoor
