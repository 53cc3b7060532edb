/-
  Of the reference: Rank.
-/
import Derived.Test.YtepbmgbomdekaaaXRank
import Derived.Test.YtepbmgbomdekaaaXRSiz
import Derived.Test.YtepbmgbomdekaaaXOfR
namespace Go.Proofs.Ytepbmgbomdekaaa
open Go Go.RowKit

set_option maxRecDepth 100000 in
set_option maxHeartbeats 4000000 in
theorem rrank_any (bc r : Nat) (ks : List Bool) (vn vt vm vc vb ve : Value) (p : PosS) (ak b b0 b1 : Option Addr) (ck c c0 c1 N : Nat) (w : World) (hbc : bc ≤ 64) (hb1 : 1 ≤ bc) (hr : r ≤ 2) (hk1 : 1 ≤ ks.length) (hks : ks.length ≤ 3) (hp : PosFit p) (hN : N ≤ w.heap.size) (hP : PosIn N w b b0 b1 p) (hK : Keeps N w ak ks) :
    Calls Try.prog 22 #[.agg #[.int .i64 (bc : Int), vn, vt, .slice ak ks.length ck, .int .i64 (r : Int), vm, vc, vb, ve], PosV b b0 b1 c c0 c1 p] w fun e w' => e = .returned (.tuple #[.int .i64 (((rankV bc r ks p).1 : Nat) : Int), .int .i64 (((rankV bc r ks p).2 : Nat) : Int)]) ∧ Below w.heap.size w w' := by
  obtain ⟨V, hV⟩ : ∃ V, rankV bc r ks p = V := ⟨_, rfl⟩
  rw [hV]
  unfold rankV at hV
  have HV := Lib.hid hV
  clear hV
  go_enter Try.func22, Try.ntmps22
  go_upto_region 1 with (fail)
  unfold PosV
  obtain ⟨hb0, hG, hQ, hS0⟩ := two_boxes w #[.int .i64 (bc : Int), vn, vt, .slice ak ks.length ck, .int .i64 (r : Int), vm, vc, vb, ve] #[.slice b p.cells.length c, .slice b0 p.h0.length c0, .slice b1 p.h1.length c1, .int .i64 p.rights, .int .i64 p.side] 35 27
  generalize (w.alloc (.cells #[.int .i64 (bc : Int), vn, vt, .slice ak ks.length ck, .int .i64 (r : Int), vm, vc, vb, ve] 35)).alloc (.cells #[.slice b p.cells.length c, .slice b0 p.h0.length c0, .slice b1 p.h1.length c1, .int .i64 p.rights, .int .i64 p.side] 27) = w0 at *
  have HM := Lib.hid (rvalid_any bc r ks vn vt vm vc vb ve p ak b b0 b1 ck c c0 c1 N w0 hr (by omega) hp (Nat.le_trans hN hb0.size) (hP.up hN hb0) (hK.below (hb0.mono hN)))
  unfold PosV at HM
  have HP0 := Lib.hid (hP.up hN hb0)
  have HK0 := Lib.hid (hK.below (hb0.mono hN))
  have hN0 : N ≤ w0.heap.size := Nat.le_trans hN hb0.size
  clear hS0 hP hK hN
  cases hm : posB bc r ks p with
  | false =>
    rw [hm] at HM HV
    have HF := Lib.hid (show V = (0, 40) by rw [← HV.out]; rfl)
    clear hm
    go_wp2_with (first | (refine wpList_load_row rfl 35 (.tmp 2) rfl w.heap.size rfl 35 _ (0, 0) _ hG Try.underlying35 rfl info_game ?_) | (refine wpList_load_row rfl 27 (.tmp 3) rfl (w.heap.size + 1) rfl 27 _ (0, 0) _ hQ Try.underlying27 rfl info_pos ?_) | (go_at_call 26; refine HM.out.mono ?_; rintro e w1 ⟨rfl, hb1⟩))
    go_ret2
    exact ⟨by rw [HF.out]; rfl, below_step hb0 hb1⟩
  | true =>
    rw [hm] at HM HV
    obtain ⟨q, eq, hql, hqm, hh0, hh1⟩ := pos_some hm
    rw [eq, nats_zs] at HV
    have hmt := mat_pos hm hql hqm
    have HP1 := Lib.hid (show Ints N w0 b (zs q) by rw [← eq]; exact HP0.out.cells)
    have HL := Lib.hid (show p.cells.length = q.length by rw [eq, zs_len])
    have hcts := counts_countN hqm
    have HSZ := Lib.hid (show sizeV bc r ks (matS (2 * ks.length + 1) q p) = if ways (countN (2 * ks.length + 1) q) ≤ 1099511627776 then (ways (countN (2 * ks.length + 1) q), 0) else (0, 2) by
      unfold sizeV
      rw [if_pos hmt]
      show (if ways (nats (zs (countN (2 * ks.length + 1) q))) ≤ 1099511627776 then (ways (nats (zs (countN (2 * ks.length + 1) q))), 0) else (0, 2)) = _
      rw [nats_zs])
    have HEQ := Lib.hid eq
    rw [HL.out] at HM hQ
    obtain ⟨m, hm0⟩ : ∃ m, m = 2 * ks.length + 1 := ⟨_, rfl⟩
    rw [← hm0] at HV HSZ hcts hqm hmt
    have HM0 := Lib.hid hm0
    have hm13 : m ≤ 13 := by omega
    have hqb : q.length ≤ 64 := by omega
    have HH0 := Lib.hid hh0
    have HH1 := Lib.hid hh1
    have HCT := Lib.hid hcts
    have HQM := Lib.hid hqm
    have HQL := Lib.hid hql
    clear hm eq hql hm0 hh0 hh1 hcts hqm hmt
    go_upto_region 3 with (first | (refine wpList_load_row rfl 35 (.tmp 2) rfl w.heap.size rfl 35 _ (0, 0) _ hG Try.underlying35 rfl info_game ?_) | (refine wpList_load_row rfl 27 (.tmp 3) rfl (w.heap.size + 1) rfl 27 _ (0, 0) _ hQ Try.underlying27 rfl info_pos ?_) | (go_at_call 26; refine HM.out.mono ?_; rintro e w1 ⟨rfl, hb1⟩))
    have hG1 := hp_up hG hb1
    have hQ1 := hp_up hQ hb1
    have hN1 : N ≤ w1.heap.size := Nat.le_trans hN0 hb1.size
    have HB1 := Lib.hid (below_step hb0 hb1)
    have HPP1 := Lib.hid (HP0.out.up hN0 hb1)
    have HK1 := Lib.hid (HK0.out.below (hb1.mono hN0))
    have HI1 := Lib.hid (HP1.out.up hN0 hb1)
    have HO := Lib.hid (rof_any (.int .i64 (bc : Int)) vn vt (.int .i64 (r : Int)) vm vc vb ve p q ak b b0 b1 ks.length ck c c0 c1 N m w1 (by omega) HM0.out HEQ.out (by have := HQL.out; omega) hqb HQM.out (by have := HH0.out; omega) (by have := HH0.out; omega) (by have := HH1.out; omega) (by have := HH1.out; omega) hN1 HPP1.out)
    unfold PosV at HO
    rw [HL.out] at HO
    clear HM hG hQ hb0 hb1 HP0 HK0 HP1 hN0
    go_upto_region 4 with (first | (refine wpList_load_row rfl 35 (.tmp 2) rfl w.heap.size rfl 35 _ (0, 0) _ hG1 Try.underlying35 rfl info_game ?_) | (refine wpList_load_row rfl 27 (.tmp 3) rfl (w.heap.size + 1) rfl 27 _ (0, 0) _ hQ1 Try.underlying27 rfl info_pos ?_) | (go_at_call 13; refine HO.out.mono ?_; rintro e w2 ⟨a, a0, a1, d, d0, d1, rfl, hP2, hb2⟩; have hO2 := hP2.pin; have HOW := Lib.hid hP2.cells; clear hP2))
    obtain ⟨Mt, hMt⟩ : ∃ Mt, matS m q p = Mt := ⟨_, rfl⟩
    have hMc : Mt.cells = zs (countN m q) := by rw [← hMt]; rfl
    have hM0 : Mt.h0.length = ks.length := by rw [← hMt]; exact HH0.out
    have hM1 : Mt.h1.length = ks.length := by rw [← hMt]; exact HH1.out
    rw [hMt] at hO2 HSZ ⊢
    have hfit : PosFit Mt := ⟨by rw [hMc, zs_len, countN_len]; unfold maxLen; omega, by rw [hM0]; unfold maxLen; omega, by rw [hM1]; unfold maxLen; omega⟩
    have HMC := Lib.hid hMc
    have HML := Lib.hid (show Mt.cells.length = m by rw [hMc, zs_len, countN_len])
    clear hMt hMc hM0 hM1 HO
    have HOW3 := Lib.hid (OwnInts.upx HOW.out (below_alloc (Below.refl _ _) (.cells #[.slice a Mt.cells.length d, .slice a0 Mt.h0.length d0, .slice a1 Mt.h1.length d1, .int .i64 Mt.rights, .int .i64 Mt.side] 39)))
    have hG2 := hp_up hG1 hb2
    have hQ2 := hp_up hQ1 hb2
    have hb3 : Below w2.heap.size w2 (w2.alloc (.cells #[.slice a Mt.cells.length d, .slice a0 Mt.h0.length d0, .slice a1 Mt.h1.length d1, .int .i64 Mt.rights, .int .i64 Mt.side] 39)) := below_alloc (Below.refl _ _) _
    have hX3 := World.alloc_heap_new w2 (.cells #[.slice a Mt.cells.length d, .slice a0 Mt.h0.length d0, .slice a1 Mt.h1.length d1, .int .i64 Mt.rights, .int .i64 Mt.side] 39)
    generalize w2.alloc (.cells #[.slice a Mt.cells.length d, .slice a0 Mt.h0.length d0, .slice a1 Mt.h1.length d1, .int .i64 Mt.rights, .int .i64 Mt.side] 39) = w3 at *
    have hG3 := hp_up hG2 hb3
    have hQ3 := hp_up hQ2 hb3
    have hN2 : N ≤ w2.heap.size := Nat.le_trans hN1 hb2.size
    have hN3 : w2.heap.size ≤ w3.heap.size := hb3.size
    have HB3 := Lib.hid (below_step (below_step HB1.out hb2) hb3)
    have HK3 := Lib.hid (keeps_mono ((HK1.out.below (hb2.mono hN1)).below (hb3.mono hN2)) hN2)
    have HI3 := Lib.hid ((HI1.out.up hN1 hb2).up hN2 hb3)
    have HO3 := Lib.hid (hO2.up (Nat.le_refl _) hb3)
    have HS := Lib.hid (rsize_any bc r ks vn vt vm vc vb ve Mt ak a a0 a1 ck d d0 d1 w2.heap.size w3 hbc hr hks hfit hN3 HO3.out HK3.out)
    rw [HSZ.out] at HS
    unfold PosV at HS
    rw [HML.out] at HS hX3
    have l2 : w2.heap.size < w3.heap.size := bx_lt hX3
    have HW1 := Lib.hid HB1.out.size
    clear hG1 hG2 hQ1 hQ2 hb2 hb3 HB1 HK1 HI1 hO2 HPP1 hfit
    generalize w2.heap.size = x2 at *
    by_cases hw : ways (countN m q) ≤ 1099511627776
    · rw [if_pos hw] at HS HV
      go_upto_region 7 with (first | (refine wpList_load_row rfl 35 (.tmp 2) rfl w.heap.size rfl 35 _ (0, 0) _ hG3 Try.underlying35 rfl info_game ?_) | (refine wpList_load_row rfl 39 (.tmp 6) rfl x2 rfl 39 _ (0, 0) _ hX3 Try.underlying39 rfl info_mat ?_) | (go_at_call 15; refine HS.out.mono ?_; rintro e w4 ⟨rfl, hb4⟩))
      have HF := Lib.hid (show V = (rankS (countN m q) q, 0) by rw [← HV.out]; simp)
      have hX4 := hp_up hX3 hb4
      have hQ4 := hp_up hQ3 hb4
      have hI4 := HI3.out.up (show N ≤ w3.heap.size by omega) hb4
      have HO4 := Lib.hid (OwnInts.upx HOW3.out hb4)
      have hN4 : N ≤ w4.heap.size := by have := hb4.size; omega
      have HB4 := Lib.hid (below_step HB3.out hb4)
      have HMN := Lib.hid (show x2 < w4.heap.size by have := hb4.size; omega)
      clear HOW HOW3 hX3 hQ3 hG3 hb4 HB3 HI3 HS HSZ HK3 HO3 HV hN3 l2
      have ho4 : OwnInts w1.heap.size w4 (.slice a m d) (zs (countN m q)) := by
        have h9 := HO4.out
        have e : (matS m q p).cells.length = m := by show (zs (countN m q)).length = m; rw [zs_len, countN_len]
        rw [e] at h9
        exact h9
      obtain ⟨M, rfl, hM1, hM2⟩ : ∃ M, a = some ⟨M, 0, none⟩ ∧ w1.heap.size ≤ M ∧ M < w4.heap.size := by
        rcases ho4.form with ⟨_, h0⟩ | ⟨g, cap, e, h1, h2⟩
        · have := congrArg List.length h0
          have h2 := HM0.out
          rw [zs_len, countN_len] at this; simp at this; omega
        · injection e with e1 e2 e3; exact ⟨g, e1, h1, h2⟩
      have hne1 : ¬ x2 = M := fun e => own_ne ho4 hX4 (by decide) (by rw [e]; rfl)
      have hne2 : ¬ w.heap.size + 1 = M := fun e => own_ne ho4 hQ4 (by decide) (by rw [e]; rfl)
      have hNM : N ≤ M := by omega
      have lq4 := bx_lt hQ4
      have lx4 := bx_lt hX4
      have hll := countN_len m q
      obtain ⟨TT, hTT⟩ : ∃ TT, rankS (countN m q) q = TT := ⟨_, rfl⟩
      have hTb : TT ≤ 1099511627776 := by have := rank_lt HCT.out; omega
      rw [hTT] at HF
      have HTT := Lib.hid hTT
      have HO4' := Lib.hid ho4
      have HX4 := Lib.hid hX4
      have HQ4 := Lib.hid hQ4
      have HI4 := Lib.hid hI4
      have HWW := Lib.hid hw
      have HLL := Lib.hid hll
      have hc0 : w4.cell? ⟨w.heap.size + 1, 0, none⟩ = some (.slice b q.length c) := bx_cell hQ4 0 rfl
      clear hTT ho4 hX4 hQ4 hI4 hw hll HO4 HMC HML
      go_wp2_with fail
      go_loopw [7, 10] (fun v i wr => ∃ (k R : Nat) (Lk : List Nat), k ≤ q.length ∧ i = .int .i64 (k : Int) ∧ v = .int .i64 (R : Int) ∧ Hid (R + rankS Lk (q.drop k) = TT) ∧ Hid (Counts Lk (q.drop k)) ∧ Hid (Lk.length = m) ∧ Hid (ways Lk ≤ 1099511627776) ∧ Hid (OwnInts w1.heap.size wr (.slice (some ⟨M, 0, none⟩) m d) (zs Lk)) ∧ Hid (Alters (fun z => z = M) w4 wr)) (fun _ i _ => q.length - (intOf i).toNat)
      case atStart => exact ⟨0, 0, countN m q, Nat.zero_le _, rfl, rfl, Lib.hid (by rw [List.drop_zero, Nat.zero_add]; exact HTT.out), Lib.hid (by rw [List.drop_zero]; exact HCT.out), HLL, HWW, HO4', Lib.hid (Alters.of_below (Below.refl _ _))⟩
      case round =>
        clear hc0
        obtain ⟨k, R, Lk, hk, rfl, rfl, HR, HC, HLK, HW, HOk, HAk⟩ := hrel
        have hQr := (HAk.out.block (w.heap.size + 1) lq4 hne2).trans HQ4.out
        have p0 : wr.cell? ⟨w.heap.size + 1, 0, none⟩ = some (.slice b q.length c) := bx_cell hQr 0 rfl
        have lqr := bx_lt hQr
        by_cases hlt : k < q.length
        · obtain ⟨bb, off, rfl, hc4⟩ := HI4.out.zat hlt
          have hbN : bb < N := by
            rcases HI4.out with e | ⟨b2, off2, e, hn, _⟩
            · have := congrArg List.length e; rw [zs_len] at this; simp only [List.length_nil] at this; omega
            · cases e; exact hn
          have hxm : q.getD k 0 < m := HQM.out _ (by rw [List.getD_eq_getElem?_getD, List.getElem?_eq_getElem hlt, Option.getD_some]; exact List.getElem_mem hlt)
          have hdr : q.drop k = q.getD k 0 :: q.drop (k + 1) := by rw [List.drop_eq_getElem_cons hlt, List.getD_eq_getElem?_getD, List.getElem?_eq_getElem hlt, Option.getD_some]
          have hC := HC.out
          have hR := HR.out
          rw [hdr] at hC hR
          obtain ⟨n, hn⟩ : ∃ n, n = (q.drop (k + 1)).length := ⟨_, rfl⟩
          have hn64 : n < 64 := by rw [hn, List.length_drop]; omega
          have hsum : Lk.sum = n + 1 := by rw [hn, ← hC.1, List.length_cons]
          generalize q.getD k 0 = x at *
          obtain ⟨hx0, hC2⟩ := counts_tail hC
          have HC2 := Lib.hid hC2
          have hRS : R + (below Lk x + rankS (dec Lk x) (q.drop (k + 1))) = TT := hR
          have HRS := Lib.hid hRS
          have hRT : R + below Lk x ≤ TT := by omega
          have HX0 := Lib.hid hx0
          have HVB := Lib.hid (show ∀ y, Lk.getD y 0 ≤ 64 from fun y => by rw [hC.2 y]; exact Nat.le_trans List.count_le_length (by rw [List.length_cons, ← hn]; omega))
          have HSM := Lib.hid hsum
          have HL2 := Lib.hid (show (dec Lk x).length = m by rw [dec_length]; exact HLK.out)
          have HW2 := Lib.hid (show ways (dec Lk x) ≤ 1099511627776 by rw [← term_of hx0]; exact Nat.le_trans (term_le hsum x) HW.out)
          have HCE := Lib.hid hc4
          have t1 : decide ((k : Int) < (q.length : Int)) = true := by simp; omega
          have hb9 : ¬ bb = M := by omega
          have lb4 : bb < w4.heap.size := by omega
          clear hC hR hn hsum hC2 hRS hx0 hdr HR HC
          go_wp2_with fail
          go_loopw [7, 11] (fun v i wz => ∃ (y R2 : Nat), y ≤ x ∧ i = .int .i64 (y : Int) ∧ v = .int .i64 (R2 : Int) ∧ Hid (R2 = R + below Lk y) ∧ Hid (OwnInts w1.heap.size wz (.slice (some ⟨M, 0, none⟩) m d) (zs Lk)) ∧ Hid (Alters (fun z => z = M) w4 wz)) (fun _ i _ => x + 1 - (intOf i).toNat)
          case atStart => exact ⟨0, R, Nat.zero_le _, rfl, rfl, Lib.hid rfl, HOk, HAk⟩
          case round =>
            clear p0 lqr hQr HOk HAk
            obtain ⟨y, R2, hy, rfl, rfl, HR2, HO, HA⟩ := hrel
            have hQz := (HA.out.block (w.heap.size + 1) lq4 hne2).trans HQ4.out
            have hXz := (HA.out.block x2 lx4 hne1).trans HX4.out
            have p0 : wr.cell? ⟨w.heap.size + 1, 0, none⟩ = some (.slice (some ⟨bb, off, none⟩) q.length c) := bx_cell hQz 0 rfl
            have m0 : wr.cell? ⟨x2, 0, none⟩ = some (.slice (some ⟨M, 0, none⟩) m d) := bx_cell hXz 0 rfl
            have hc : wr.cell? ⟨bb, off + k, none⟩ = some (.int .i64 (x : Int)) := (World.cell?_of_block (a := ⟨bb, off + k, none⟩) (HA.out.block bb lb4 hb9)).trans HCE.out
            have lqz := bx_lt hQz
            have lxz := bx_lt hXz
            have hym : y < m := by omega
            obtain ⟨cy, fy⟩ := HO.out.cellAt (j := y) (by rw [zs_len, HLK.out]; exact hym)
            rw [zs_get] at cy
            have lMz : M < wr.heap.size := World.block_lt_of_cell? _ _ cy
            obtain ⟨v, hv⟩ : ∃ v, v = Lk.getD y 0 := ⟨_, rfl⟩
            have hv64 : v ≤ 64 := by rw [hv]; exact HVB.out y
            rw [← hv] at cy
            have HV0 := Lib.hid hv
            have t2 : decide ((y : Int) ≤ (x : Int)) = true := by simp; omega
            have t3 : (0 : Int) ≤ (y : Int) := by omega
            have t4 : (y : Int) < (m : Int) := by omega
            have t5 : (0 : Int) ≤ (k : Int) := by omega
            have t6 : (k : Int) < (q.length : Int) := by omega
            clear hQz hXz hv
            by_cases hv0 : v = 0
            · have hyx : y < x := by
                by_cases e : y = x
                · subst e; have := HX0.out; have := HV0.out; omega
                · omega
              have HB2 := Lib.hid (show R2 = R + below Lk (y + 1) by
                have e : below Lk (y + 1) = below Lk y + term Lk y := rfl
                rw [e, HR2.out]
                unfold term
                rw [if_pos (by rw [← HV0.out]; exact hv0)]
                omega)
              have t7 : ((v : Int) == 0) = true := by rw [hv0]; rfl
              have t8 : decide ((v : Int) = 0) = true := by rw [hv0]; rfl
              subst hv0
              go_wp2
              go_roundw
              case rel => exact ⟨y + 1, R2, by omega, by go_num, rfl, HB2, HO, HA⟩
              case measure => simp [intOf]; omega
            · have t7 : ((v : Int) == 0) = false := by rw [beq_eq_false_iff_ne]; omega
              have t8 : decide ((v : Int) = 0) = false := by simp; omega
              have i1 : IntKind.i64.wrap ((v : Int) - 1) = (v : Int) - 1 := IntWalk.i64_in _ (by omega)
              have hdz : (zs Lk).set y ((v : Int) - 1) = zs (dec Lk y) := by
                unfold zs dec
                rw [← HV0.out, List.map_set, show (((v - 1 : Nat)) : Int) = (v : Int) - 1 by omega]
              have ho1 := HO.out.set y ((v : Int) - 1)
              rw [hdz] at ho1
              have HO1 := Lib.hid ho1
              have HA1 := Lib.hid (HA.out.trans (alters_cell wr M y (.int .i64 ((v : Int) - 1))))
              have lM1 : M < (wr.setCell ⟨M, y, none⟩ (.int .i64 ((v : Int) - 1))).heap.size := World.block_lt_of_cell? _ _ (OwnInts.cellAt ho1 (j := y) (by rw [zs_len, dec_length, HLK.out]; exact hym)).1
              clear ho1 hdz HO HA
              go_upto_region 15 with (fail)
              generalize wr.setCell ⟨M, y, none⟩ (.int .i64 ((v : Int) - 1)) = wa at *
              clear p0 m0 hc lqz lxz cy fy lMz
              have hQz := (HA1.out.block (w.heap.size + 1) lq4 hne2).trans HQ4.out
              have hXz := (HA1.out.block x2 lx4 hne1).trans HX4.out
              have p0 : wa.cell? ⟨w.heap.size + 1, 0, none⟩ = some (.slice (some ⟨bb, off, none⟩) q.length c) := bx_cell hQz 0 rfl
              have m0 : wa.cell? ⟨x2, 0, none⟩ = some (.slice (some ⟨M, 0, none⟩) m d) := bx_cell hXz 0 rfl
              have hc : wa.cell? ⟨bb, off + k, none⟩ = some (.int .i64 (x : Int)) := (World.cell?_of_block (a := ⟨bb, off + k, none⟩) (HA1.out.block bb lb4 hb9)).trans HCE.out
              have lqz := bx_lt hQz
              have lxz := bx_lt hXz
              clear hQz hXz
              by_cases hyx : y = x
              · subst hyx
                have HRn := Lib.hid (show R2 + rankS (dec Lk y) (q.drop (k + 1)) = TT by have := HRS.out; have := HR2.out; omega)
                have t9 : ((y : Int) == (y : Int)) = true := by simp
                clear m0
                go_wp2
                go_roundw
                case rel => exact ⟨k + 1, R2, dec Lk y, by omega, by go_num, rfl, HRn, HC2, HL2, HW2, HO1, HA1⟩
                case measure => simp [intOf]; omega
              · have t9 : ((y : Int) == (x : Int)) = false := by rw [beq_eq_false_iff_ne]; omega
                have hle : below Lk (y + 1) ≤ below Lk x := below_le Lk (by omega)
                have hbe : below Lk (y + 1) = below Lk y + term Lk y := rfl
                have htm : term Lk y = ways (dec Lk y) := by unfold term; rw [if_neg (by rw [← HV0.out]; exact hv0)]
                have htl := term_le HSM.out y
                have HWY := Lib.hid (rways_any (dec Lk y) (some ⟨M, 0, none⟩) d wa.heap.size wa (by rw [dec_length, HLK.out]; omega) (by
                  have h9 := sum_dec (l := Lk) (x := y) (by rw [← HV0.out]; omega)
                  have := HSM.out; omega) HO1.out.ints')
                rw [dec_length, HLK.out] at HWY
                obtain ⟨cy, fy⟩ := HO1.out.cellAt (j := y) (by rw [zs_len, dec_length, HLK.out]; exact hym)
                rw [zs_get, show (dec Lk y).getD y 0 = v - 1 by rw [dec_at, if_pos rfl, HV0.out], show (((v - 1 : Nat)) : Int) = (v : Int) - 1 by omega] at cy
                have hr2 := HR2.out
                have hWo := HW.out
                generalize ways (dec Lk y) = wy at *
                have HRX := Lib.hid (show R2 + wy = R + below Lk (y + 1) by omega)
                have hRb : R2 + wy ≤ TT := by omega
                have hwy : wy ≤ 1099511627776 := by omega
                have i2 : IntKind.i64.wrap ((R2 : Int) + (wy : Int)) = (R2 : Int) + (wy : Int) := IntWalk.i64_in _ (by omega)
                clear hle hbe htm htl hr2 hWo
                go_upto_region 17 with (go_at_call 29; refine HWY.out.mono ?_; rintro e w' ⟨⟨v2, hv2, rfl⟩, rfl⟩; obtain rfl : v2 = wy := by (rcases hv2 with ⟨_, h9⟩ | ⟨h9, _⟩ <;> omega))
                have i3 : IntKind.i64.wrap (v : Int) = (v : Int) := IntWalk.i64_in _ (by omega)
                have i4 : (v : Int) - 1 + 1 = (v : Int) := by omega
                have hdz : (zs (dec Lk y)).set y (v : Int) = zs Lk := by
                  unfold zs dec
                  rw [List.map_set, List.set_set]
                  have h9 : y < Lk.length := by rw [HLK.out]; exact hym
                  apply List.ext_getElem
                  · simp
                  · intro j h1 h2
                    simp only [List.getElem_set, List.getElem_map]
                    by_cases e : y = j
                    · subst e
                      rw [if_pos rfl, HV0.out, List.getD_eq_getElem?_getD, List.getElem?_eq_getElem h9, Option.getD_some]
                    · rw [if_neg e]
                have ho2 := HO1.out.set y (v : Int)
                rw [hdz] at ho2
                have HO2 := Lib.hid ho2
                have HA2 := Lib.hid (HA1.out.trans (alters_cell w' M y (.int .i64 (v : Int))))
                have lM2 : M < w'.heap.size := World.block_lt_of_cell? _ _ cy
                clear ho2 hdz HO1 HA1 HWY p0 hc
                go_wp2
                go_roundw
                case rel => exact ⟨y + 1, R2 + v2, by omega, by go_num, by go_num, HRX, HO2, HA2⟩
                case measure => simp [intOf]; omega
        · obtain rfl : k = q.length := by omega
          have HRT := Lib.hid (show R = TT by have := HR.out; rw [List.drop_length] at this; exact this)
          have t1 : decide ((q.length : Int) < (q.length : Int)) = false := by simp
          have HBF := Lib.hid (HB4.out.trans (HAk.out.below HB4.out.size (fun z hz => by have e : z = M := hz; have := HW1.out; omega)))
          go_wp2
          go_ret2
          exact ⟨by rw [HF.out, ← HRT.out]; rfl, HBF.out⟩
    · rw [if_neg hw] at HS HV
      have HF := Lib.hid (show V = (0, 2) by rw [← HV.out]; simp)
      go_wp2_with (first | (refine wpList_load_row rfl 35 (.tmp 2) rfl w.heap.size rfl 35 _ (0, 0) _ hG3 Try.underlying35 rfl info_game ?_) | (refine wpList_load_row rfl 39 (.tmp 6) rfl x2 rfl 39 _ (0, 0) _ hX3 Try.underlying39 rfl info_mat ?_) | (go_at_call 15; refine HS.out.mono ?_; rintro e w4 ⟨rfl, hb4⟩))
      go_ret2
      exact ⟨by rw [HF.out]; rfl, below_step HB3.out hb4⟩
end Go.Proofs.Ytepbmgbomdekaaa
