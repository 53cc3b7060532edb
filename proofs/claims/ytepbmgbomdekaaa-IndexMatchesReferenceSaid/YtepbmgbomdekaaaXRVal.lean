/-
  Of the reference: Valid of materials.
-/
import Derived.Test.YtepbmgbomdekaaaXVal
import Derived.Test.YtepbmgbomdekaaaPRVa
namespace Go.Proofs.Ytepbmgbomdekaaa
open Go Go.RowKit

set_option maxRecDepth 100000 in
set_option maxHeartbeats 4000000 in
theorem rmat_any (bc r : Nat) (ks : List Bool) (vn vt vm vc vb ve : Value) (p : PosS) (ak b b0 b1 : Option Addr) (ck c c0 c1 N : Nat) (w : World) (hbc : bc ≤ 64) (hr : r ≤ 2) (hks : ks.length ≤ 3) (hp : PosFit p) (hN : N ≤ w.heap.size) (hP : PosIn N w b b0 b1 p) (hK : Keeps N w ak ks) :
    Calls Try.prog 17 #[.agg #[.int .i64 (bc : Int), vn, vt, .slice ak ks.length ck, .int .i64 (r : Int), vm, vc, vb, ve], PosV b b0 b1 c c0 c1 p] w fun e w' => e = .returned (.bool (matB bc r ks p)) ∧ Below w.heap.size w w' := by
  obtain ⟨nk, hnk⟩ : ∃ nk, nk = ks.length := ⟨_, rfl⟩
  obtain ⟨pc, h0, h1, rg, sd⟩ := p
  obtain ⟨hp1, hp2, hp3⟩ := hp
  dsimp only at hp1 hp2 hp3
  obtain ⟨R, hR⟩ : ∃ R, matB bc r ks ⟨pc, h0, h1, rg, sd⟩ = R := ⟨_, rfl⟩
  rw [hR]
  unfold matB at hR
  dsimp only at hR
  have HR := Lib.hid hR
  have HZ := Lib.hid (posB_zero bc r ks ⟨pc, h0, h1, rg, sd⟩)
  dsimp only at HZ
  clear hR
  unfold PosV
  dsimp only
  rw [← hnk] at HR hks ⊢
  have HNK := Lib.hid hnk
  clear hnk
  have i1 : IntKind.i64.wrap (2 * (nk : Int)) = 2 * (nk : Int) := IntWalk.i64_in _ (by omega)
  have i2 : IntKind.i64.wrap (2 * (nk : Int) + 1) = 2 * (nk : Int) + 1 := IntWalk.i64_in _ (by omega)
  go_enter Try.func17, Try.ntmps17
  go_upto_region 1 with (fail)
  obtain ⟨hb0, hG, hQ, hS0⟩ := two_boxes w #[.int .i64 (bc : Int), vn, vt, .slice ak nk ck, .int .i64 (r : Int), vm, vc, vb, ve] #[.slice b pc.length c, .slice b0 h0.length c0, .slice b1 h1.length c1, .int .i64 rg, .int .i64 sd] 35 39
  generalize (w.alloc (.cells #[.int .i64 (bc : Int), vn, vt, .slice ak nk ck, .int .i64 (r : Int), vm, vc, vb, ve] 35)).alloc (.cells #[.slice b pc.length c, .slice b0 h0.length c0, .slice b1 h1.length c1, .int .i64 rg, .int .i64 sd] 39) = w0 at *
  have hC0 := GM.of hb0 hG hQ
  have HP0 := Lib.hid (hP.up hN hb0)
  have HK0 := Lib.hid (hK.below (hb0.mono hN))
  have hN0 : N ≤ w0.heap.size := Nat.le_trans hN hb0.size
  have g0 := hC0.g0
  have g3 := hC0.g3
  have q0 := bx_cell hQ 0 rfl
  have lq := bx_lt hQ
  have lg := bx_lt hG
  have hB0 := Lib.hid hC0.b
  clear hG hQ hS0 hP hK hN
  unfold maxLen at hp1
  by_cases hlen : pc.length = 2 * nk + 1
  · have t1 : ((pc.length : Int) == 2 * (nk : Int) + 1) = true := by simp; omega
    have t2 : ((pc.length : Int) != 2 * (nk : Int) + 1) = false := by simp; omega
    have t3 : decide ((pc.length : Int) = 2 * (nk : Int) + 1) = true := by simp; omega
    have t4 : (pc.length : Int) = 2 * (nk : Int) + 1 := by omega
    have HLEN := Lib.hid hlen
    clear hlen
    go_upto_region 4 with (fail)
    have hpl : pc.length ≤ 7 := by have := HLEN.out; omega
    have hrf : fillF (pc.drop 0) (bc : Int) = fillF pc (bc : Int) := rfl
    obtain ⟨Rf, hRf⟩ : ∃ Rf, fillF pc (bc : Int) = Rf := ⟨_, rfl⟩
    rw [hRf] at HR hrf
    have HR0 := Lib.hid hrf
    clear t1 t2 t3 t4 hRf hrf
    go_wp2_with fail
    go_loopw [5, 6] (fun v i wr => ∃ (k : Nat) (c : Int), k ≤ pc.length ∧ i = .int .i64 k ∧ v = .int .i64 c ∧ Hid (fillF (pc.drop k) c = Rf) ∧ c ≤ 64 ∧ wr = w0) (fun _ i _ => pc.length - (intOf i).toNat)
    case atStart => exact ⟨0, (bc : Int), Nat.zero_le _, rfl, rfl, HR0, by omega, rfl⟩
    case round =>
      obtain ⟨k, cc, hk, rfl, rfl, HK, hc9, rfl⟩ := hrel
      by_cases hlt : k < pc.length
      · obtain ⟨bb, off, hab, hbN, hc⟩ := HP0.out.cells.at_ hlt
        subst hab
        have hst : fillF (pc.drop k) cc = if pc[k]?.getD 0 < 0 then false else if cc < pc[k]?.getD 0 then false else fillF (pc.drop (k + 1)) (cc - pc[k]?.getD 0) := by rw [List.drop_eq_getElem_cons hlt, List.getElem?_eq_getElem hlt]; rfl
        rw [HK.out] at hst
        generalize pc[k]?.getD 0 = x at hc hst
        have HST := Lib.hid hst
        have t5 : decide ((k : Int) < (pc.length : Int)) = true := by simp; omega
        have t6 : (0 : Int) ≤ (k : Int) := by omega
        have t7 : (k : Int) < (pc.length : Int) := by omega
        clear hst
        by_cases hx0 : x < 0
        · have t0 : decide (x < 0) = true := by simpa using hx0
          have HF := Lib.hid (show R = false by
            have h9 : Rf = false := by rw [HST.out, if_pos hx0]
            rw [← HR.out, h9]; simp)
          clear hx0
          go_wp2
          go_ret
          exact ⟨by rw [HF.out]; rfl, hB0.out⟩
        · have t0 : decide (x < 0) = false := by simpa using hx0
          by_cases hx1 : cc < x
          · have t1 : decide (cc < x) = true := by simpa using hx1
            have HF := Lib.hid (show R = false by
              have h9 : Rf = false := by rw [HST.out, if_neg hx0, if_pos hx1]
              rw [← HR.out, h9]; simp)
            clear hx0 hx1
            go_wp2
            go_ret
            exact ⟨by rw [HF.out]; rfl, hB0.out⟩
          · have t1 : decide (cc < x) = false := by simpa using hx1
            have HF := Lib.hid (show fillF (pc.drop (k + 1)) (cc - x) = Rf by rw [HST.out, if_neg hx0, if_neg hx1])
            have hx2 : 0 ≤ x := by omega
            have hx3 : x ≤ cc := by omega
            clear hx0 hx1
            go_wp2
            go_roundw
            case rel => exact ⟨k + 1, _, by omega, by go_num, rfl, HF, by omega, trivial⟩
            case measure => simp [intOf]; omega
      · obtain rfl : k = pc.length := by omega
        have t5 : decide ((pc.length : Int) < (pc.length : Int)) = false := by simp
        have hfin : Rf = decide (cc = 0) := by rw [← HK.out, List.drop_eq_nil_of_le (Nat.le_refl _)]; rfl
        rw [hfin] at HR
        clear hfin HK HR0
        go_upto_region 10 with (fail)
        have hCd := hC0.drew
        have hd : Below wr.heap.size wr wr.drew := (Below.refl _ _).drew
        refine wp_region_held_drew (S := GM w w.heap.size (w.heap.size + 1) 39 (.int .i64 (bc : Int)) vn vt (.slice ak nk ck) (.int .i64 (r : Int)) vm vc vb ve (.slice b pc.length c) (.slice b0 h0.length c0) (.slice b1 h1.length c1) (.int .i64 rg) (.int .i64 sd)) (by kernel_rfl) hCd (fun hHeld => ?_)
        have hNd : N ≤ wr.drew.heap.size := hN0
        have HPd := Lib.hid (HP0.out.up hN0 hd)
        have HKd := Lib.hid (HK0.out.below (hd.mono hN0))
        clear hC0 HP0 HK0 hN0 hd g0 g3 q0 lq lg hB0
        generalize wr.drew = wD at *
        by_cases h00 : cc = 0
        · subst h00
          rw [decide_eq_true HLEN.out, Bool.true_and, decide_eq_true rfl, Bool.true_and, ← HZ.out] at HR
          refine TC 0 ?_
          (try simp only [pS])
          refine TC 1 ?_
          (try simp only [pS])
          refine TC 2 ?_
          (try simp only [pS])
          refine TX 3 (YL rfl 35 _ rfl w.heap.size 0 rfl _ [.int .i64 (bc : Int), vn, vt, .slice ak nk ck, .int .i64 (r : Int), vm, vc, vb, ve] _ _ (fun _ h => h.hg) rfl Try.underlying35 rfl info_game) ?_
          (try simp only [pS])
          refine TC 4 ?_
          (try simp only [pS])
          refine TC 5 ?_
          (try simp only [pS])
          refine TC 6 ?_
          (try simp only [pS])
          refine TC 8 ?_
          (try simp only [pS])
          refine TX 9 (YL rfl 25 _ rfl (w.heap.size + 1) 1 rfl _ [.slice b0 h0.length c0, .slice b1 h1.length c1] _ _ (fun _ h => h.hq) rfl Try.underlying25 rfl info_hand) ?_
          (try simp only [pS])
          refine TC 10 ?_
          (try simp only [pS])
          refine TC 11 ?_
          (try simp only [pS])
          refine TC 12 ?_
          (try simp only [pS])
          refine TC 13 ?_
          (try simp only [pS])
          refine wpAnyH_ready (rs := [7]) (by kernel_rfl) (by simp) ?_
          refine AC (i := 7) (fun K hK => ?_) AllReadyH.nil
          refine step_mk rfl _ _ rfl bc rfl rfl (by omega) ?_
          intro w4 ho4 hb4
          have hS4 := hHeld.up hb4
          refine hK.out _ _ hS4 (fun _ => ?_)
          clear hK K
          (try simp only [pS])
          have hI4 : Ints w4.heap.size w4 (some ⟨wD.heap.size, 0, none⟩) (List.replicate bc 0) := ho4.ints'
          have HV := Lib.hid (rvalid_any bc r ks vn vt vm vc vb ve ⟨List.replicate bc 0, h0, h1, rg, sd⟩ ak (some ⟨wD.heap.size, 0, none⟩) b0 b1 ck bc c0 c1 w4.heap.size w4 hr (by have := HNK.out; omega) ⟨by simp [maxLen]; omega, hp2, hp3⟩ (Nat.le_refl _) ⟨hI4, (HPd.out.h0.up hNd hb4).mono (Nat.le_trans hNd hb4.size), (HPd.out.h1.up hNd hb4).mono (Nat.le_trans hNd hb4.size)⟩ (keeps_mono (HKd.out.below (hb4.mono hNd)) (Nat.le_trans hNd hb4.size)))
          unfold PosV at HV
          dsimp only at HV
          rw [List.length_replicate, ← HNK.out, HR.out] at HV
          clear hI4 ho4
          refine TC 14 ?_
          (try simp only [pS])
          refine wpAnyH_ready (rs := [15]) (by kernel_rfl) (by simp) ?_
          refine AC (i := 15) (fun K hK => ?_) AllReadyH.nil
          refine step_call_h rfl 26 _ _ #[.agg #[.int .i64 (bc : Int), vn, vt, .slice ak nk ck, .int .i64 (r : Int), vm, vc, vb, ve], .agg #[.slice (some ⟨wD.heap.size, 0, none⟩) bc bc, .slice b0 h0.length c0, .slice b1 h1.length c1, .int .i64 rg, .int .i64 sd]] rfl rfl (enters_of Try.func26 (by kernel_rfl) rfl) (HV.out.mono ?_)
          rintro e w5 ⟨rfl, hb5⟩
          have hS5 := hS4.up hb5
          refine ⟨_, rfl, hK.out _ _ hS5 (fun _ => ?_)⟩
          clear hK K HV
          (try simp only [pS])
          refine TC 16 ?_
          (try simp only [pS])
          refine TC 17 ?_
          (try simp only [pS])
          refine wpAnyH_done (by kernel_rfl) ?_ _
          go_wp2
          go_ret
          exact ⟨rfl, hS5.b⟩
        · have t8 : (cc == 0) = false := by simpa using h00
          have t9 : decide (cc = 0) = false := by simpa using h00
          have HRF := Lib.hid (show R = false by rw [← HR.out, t9]; simp)
          clear h00 HR
          refine TC 0 ?_
          (try simp only [pS])
          refine TC 1 ?_
          (try simp only [pS])
          refine TC 2 ?_
          (try simp only [pS])
          refine SK 3 ?_
          (try simp only [pS])
          refine SK 4 ?_
          (try simp only [pS])
          refine SK 5 ?_
          (try simp only [pS])
          refine SK 6 ?_
          (try simp only [pS])
          refine SK 7 ?_
          (try simp only [pS])
          refine SK 8 ?_
          (try simp only [pS])
          refine SK 9 ?_
          (try simp only [pS])
          refine SK 10 ?_
          (try simp only [pS])
          refine SK 11 ?_
          (try simp only [pS])
          refine SK 12 ?_
          (try simp only [pS])
          refine SK 13 ?_
          (try simp only [pS])
          refine SK 14 ?_
          (try simp only [pS])
          refine SK 15 ?_
          (try simp only [pS])
          refine TC 16 ?_
          (try simp only [pS])
          refine TC 17 ?_
          (try simp only [pS])
          refine wpAnyH_done (by kernel_rfl) ?_ _
          go_wp2
          go_ret
          exact ⟨by rw [HRF.out]; rfl, hHeld.b⟩
  · have t1 : ¬ ((pc.length : Int) = 2 * (nk : Int) + 1) := by omega
    have t2 : ((pc.length : Int) == 2 * (nk : Int) + 1) = false := by rw [beq_eq_false_iff_ne]; exact t1
    have t3 : ((pc.length : Int) != 2 * (nk : Int) + 1) = true := by simp; omega
    have t4 : decide ((pc.length : Int) = 2 * (nk : Int) + 1) = false := by simpa using t1
    have HRF := Lib.hid (show R = false by rw [← HR.out, decide_eq_false hlen, Bool.false_and])
    clear hlen HR
    go_wp2
    go_ret
    exact ⟨by rw [HRF.out]; rfl, hB0.out⟩
end Go.Proofs.Ytepbmgbomdekaaa
