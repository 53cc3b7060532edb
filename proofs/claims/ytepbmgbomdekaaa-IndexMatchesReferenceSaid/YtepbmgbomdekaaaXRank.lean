/-
  Rank of the program's index.
-/
import Derived.Test.YtepbmgbomdekaaaXSize
import Derived.Test.YtepbmgbomdekaaaXOfW
import Derived.Test.YtepbmgbomdekaaaXFill
namespace Go.Proofs.Ytepbmgbomdekaaa
open Go Go.RowKit

theorem upTo_some {x m : Int} (h : upToB x m = true) : 0 ≤ x ∧ x ≤ m := by
  unfold upToB at h
  simpa using h
theorem hand_len {ks : List Bool} {h : List Int} (hh : handB ks h = true) : h.length = ks.length := by
  rcases Decidable.em (h.length = ks.length) with e | e
  · exact e
  · rw [handB_len e] at hh; cases hh
theorem pos_some {bc r : Nat} {ks : List Bool} {p : PosS} (h : posB bc r ks p = true) : ∃ q, p.cells = zs q ∧ q.length = bc ∧ (∀ x ∈ q, x < 2 * ks.length + 1) ∧ p.h0.length = ks.length ∧ p.h1.length = ks.length := by
  unfold posB at h
  simp only [Bool.and_eq_true, decide_eq_true_eq] at h
  obtain ⟨hl, ha, h0, h1, _⟩ := h
  unfold allIn at ha
  rw [List.all_eq_true] at ha
  have key : ∀ l : List Int, (∀ x ∈ l, upToB x (2 * ks.length) = true) → ∃ q, l = zs q ∧ (∀ x ∈ q, x < 2 * ks.length + 1) := by
    intro l
    induction l with
    | nil => exact fun _ => ⟨[], rfl, by simp⟩
    | cons a l ih =>
      intro hh
      obtain ⟨q, rfl, hq⟩ := ih (fun x hx => hh x (by simp [hx]))
      obtain ⟨h1, h2⟩ := upTo_some (hh a (by simp))
      obtain ⟨n, rfl⟩ := Int.eq_ofNat_of_zero_le h1
      refine ⟨n :: q, rfl, fun x hx => ?_⟩
      rcases List.mem_cons.1 hx with rfl | hx
      · omega
      · exact hq x hx
  obtain ⟨q, e, hq⟩ := key p.cells ha
  exact ⟨q, e, by rw [e, zs_len] at hl; exact hl, hq, hand_len h0, hand_len h1⟩
/-- The material of a valid position is valid. -/
theorem mat_pos {bc r : Nat} {ks : List Bool} {p : PosS} {q : List Nat} (h : posB bc r ks p = true) (hl : q.length = bc) (hq : ∀ x ∈ q, x < 2 * ks.length + 1) : matB bc r ks (matS (2 * ks.length + 1) q p) = true := by
  unfold posB at h
  unfold matB matS
  simp only [Bool.and_eq_true, decide_eq_true_eq] at h ⊢
  refine ⟨by rw [zs_len, countN_len], ?_, h.2.2.1, h.2.2.2.1, h.2.2.2.2.1, h.2.2.2.2.2⟩
  rw [fillF_zs, countN_sum _ _ hq, hl]
/-- What Rank tells. -/
def rankV (bc r : Nat) (ks : List Bool) (p : PosS) : Nat × Nat := if posB bc r ks p = true then if ways (countN (2 * ks.length + 1) (nats p.cells)) ≤ 1099511627776 then (rankS (countN (2 * ks.length + 1) (nats p.cells)) (nats p.cells), 0) else (0, 2) else (0, 40)

set_option maxRecDepth 100000 in
set_option maxHeartbeats 4000000 in
theorem rank_any (bc r : Nat) (ks : List Bool) (vn vt vm vc vb ve : Value) (p : PosS) (ak b b0 b1 : Option Addr) (ck c c0 c1 N : Nat) (w : World) (hbc : bc ≤ 64) (hr : r ≤ 4) (hk1 : 1 ≤ ks.length) (hks : ks.length ≤ 6) (hp : PosFit p) (hN : N ≤ w.heap.size) (hP : PosIn N w b b0 b1 p) (hK : Keeps N w ak ks) :
    Calls Try.prog 21 #[.agg #[.int .i64 (bc : Int), vn, vt, .slice ak ks.length ck, .int .i64 (r : Int), vm, vc, vb, ve], PosV b b0 b1 c c0 c1 p] w fun e w' => e = .returned (.tuple #[.int .i64 (((rankV bc r ks p).1 : Nat) : Int), .int .i64 (((rankV bc r ks p).2 : Nat) : Int)]) ∧ Below w.heap.size w w' := by
  obtain ⟨V, hV⟩ : ∃ V, rankV bc r ks p = V := ⟨_, rfl⟩
  rw [hV]
  unfold rankV at hV
  have HV := Lib.hid hV
  clear hV
  go_enter Try.func21, Try.ntmps21
  go_upto_region 1 with (fail)
  unfold PosV
  obtain ⟨hb0, hG, hQ, hS0⟩ := two_boxes w #[.int .i64 (bc : Int), vn, vt, .slice ak ks.length ck, .int .i64 (r : Int), vm, vc, vb, ve] #[.slice b p.cells.length c, .slice b0 p.h0.length c0, .slice b1 p.h1.length c1, .int .i64 p.rights, .int .i64 p.side] 35 27
  generalize (w.alloc (.cells #[.int .i64 (bc : Int), vn, vt, .slice ak ks.length ck, .int .i64 (r : Int), vm, vc, vb, ve] 35)).alloc (.cells #[.slice b p.cells.length c, .slice b0 p.h0.length c0, .slice b1 p.h1.length c1, .int .i64 p.rights, .int .i64 p.side] 27) = w0 at *
  have HM := Lib.hid (posValid_any bc r ks vn vt vm vc vb ve p ak b b0 b1 ck c c0 c1 N w0 hr (by omega) hp (Nat.le_trans hN hb0.size) (hP.up hN hb0) (hK.below (hb0.mono hN)))
  unfold PosV at HM
  have HP0 := Lib.hid (hP.up hN hb0)
  have HK0 := Lib.hid (hK.below (hb0.mono hN))
  have hN0 : N ≤ w0.heap.size := Nat.le_trans hN hb0.size
  clear hS0 hP hK hN
  cases hm : posB bc r ks p with
  | false =>
    rw [hm] at HM HV
    have HF := Lib.hid (show V = (0, 40) by rw [← HV.out]; rfl)
    clear hm
    go_wp2_with (first | (refine wpList_load_row rfl 35 (.tmp 2) rfl w.heap.size rfl 35 _ (0, 0) _ hG Try.underlying35 rfl info_game ?_) | (refine wpList_load_row rfl 27 (.tmp 3) rfl (w.heap.size + 1) rfl 27 _ (0, 0) _ hQ Try.underlying27 rfl info_pos ?_) | (go_at_call 36; refine HM.out.mono ?_; rintro e w1 ⟨rfl, hb1⟩))
    go_ret2
    exact ⟨by rw [HF.out]; rfl, below_step hb0 hb1⟩
  | true =>
    rw [hm] at HM HV
    obtain ⟨q, eq, hql, hqm, hh0, hh1⟩ := pos_some hm
    rw [eq, nats_zs] at HV
    have hmt := mat_pos hm hql hqm
    have HP1 := Lib.hid (show Ints N w0 b (zs q) by rw [← eq]; exact HP0.out.cells)
    have HL := Lib.hid (show p.cells.length = q.length by rw [eq, zs_len])
    have hcts := counts_countN hqm
    have HSZ := Lib.hid (show sizeV bc r ks (matS (2 * ks.length + 1) q p) = if ways (countN (2 * ks.length + 1) q) ≤ 1099511627776 then (ways (countN (2 * ks.length + 1) q), 0) else (0, 2) by
      unfold sizeV
      rw [if_pos hmt]
      show (if ways (nats (zs (countN (2 * ks.length + 1) q))) ≤ 1099511627776 then (ways (nats (zs (countN (2 * ks.length + 1) q))), 0) else (0, 2)) = _
      rw [nats_zs])
    have HEQ := Lib.hid eq
    rw [HL.out] at HM hQ
    obtain ⟨m, hm0⟩ : ∃ m, m = 2 * ks.length + 1 := ⟨_, rfl⟩
    rw [← hm0] at HV HSZ hcts hqm hmt
    have HM0 := Lib.hid hm0
    have hm13 : m ≤ 13 := by omega
    have hqb : q.length ≤ 64 := by omega
    have HH0 := Lib.hid hh0
    have HH1 := Lib.hid hh1
    have HCT := Lib.hid hcts
    have HQM := Lib.hid hqm
    have HQL := Lib.hid hql
    clear hm eq hql hm0 hh0 hh1 hcts hqm hmt
    go_upto_region 3 with (first | (refine wpList_load_row rfl 35 (.tmp 2) rfl w.heap.size rfl 35 _ (0, 0) _ hG Try.underlying35 rfl info_game ?_) | (refine wpList_load_row rfl 27 (.tmp 3) rfl (w.heap.size + 1) rfl 27 _ (0, 0) _ hQ Try.underlying27 rfl info_pos ?_) | (go_at_call 36; refine HM.out.mono ?_; rintro e w1 ⟨rfl, hb1⟩))
    have hG1 := hp_up hG hb1
    have hQ1 := hp_up hQ hb1
    have hN1 : N ≤ w1.heap.size := Nat.le_trans hN0 hb1.size
    have HB1 := Lib.hid (below_step hb0 hb1)
    have HPP1 := Lib.hid (HP0.out.up hN0 hb1)
    have HK1 := Lib.hid (HK0.out.below (hb1.mono hN0))
    have HI1 := Lib.hid (HP1.out.up hN0 hb1)
    have HO := Lib.hid (of_any (.int .i64 (bc : Int)) vn vt (.int .i64 (r : Int)) vm vc vb ve p q ak b b0 b1 ks.length ck c c0 c1 N m w1 hks HM0.out HEQ.out hqb HQM.out (by have := HH0.out; omega) (by have := HH0.out; omega) (by have := HH1.out; omega) (by have := HH1.out; omega) hN1 HPP1.out)
    unfold PosV at HO
    rw [HL.out] at HO
    clear HM hG hQ hb0 hb1 HP0 HK0 HP1 hN0
    go_upto_region 4 with (first | (refine wpList_load_row rfl 35 (.tmp 2) rfl w.heap.size rfl 35 _ (0, 0) _ hG1 Try.underlying35 rfl info_game ?_) | (refine wpList_load_row rfl 27 (.tmp 3) rfl (w.heap.size + 1) rfl 27 _ (0, 0) _ hQ1 Try.underlying27 rfl info_pos ?_) | (go_at_call 11; refine HO.out.mono ?_; rintro e w2 ⟨a, a0, a1, d, d0, d1, rfl, hP2, hb2⟩; have hO2 := hP2.pin; clear hP2))
    obtain ⟨Mt, hMt⟩ : ∃ Mt, matS m q p = Mt := ⟨_, rfl⟩
    have hMc : Mt.cells = zs (countN m q) := by rw [← hMt]; rfl
    have hM0 : Mt.h0.length = ks.length := by rw [← hMt]; exact HH0.out
    have hM1 : Mt.h1.length = ks.length := by rw [← hMt]; exact HH1.out
    rw [hMt] at hO2 HSZ ⊢
    have hfit : PosFit Mt := ⟨by rw [hMc, zs_len, countN_len]; unfold maxLen; omega, by rw [hM0]; unfold maxLen; omega, by rw [hM1]; unfold maxLen; omega⟩
    have HMC := Lib.hid hMc
    have HML := Lib.hid (show Mt.cells.length = m by rw [hMc, zs_len, countN_len])
    clear hMt hMc hM0 hM1 HO
    have hG2 := hp_up hG1 hb2
    have hQ2 := hp_up hQ1 hb2
    have hb3 : Below w2.heap.size w2 (w2.alloc (.cells #[.slice a Mt.cells.length d, .slice a0 Mt.h0.length d0, .slice a1 Mt.h1.length d1, .int .i64 Mt.rights, .int .i64 Mt.side] 39)) := below_alloc (Below.refl _ _) _
    have hX3 := World.alloc_heap_new w2 (.cells #[.slice a Mt.cells.length d, .slice a0 Mt.h0.length d0, .slice a1 Mt.h1.length d1, .int .i64 Mt.rights, .int .i64 Mt.side] 39)
    generalize w2.alloc (.cells #[.slice a Mt.cells.length d, .slice a0 Mt.h0.length d0, .slice a1 Mt.h1.length d1, .int .i64 Mt.rights, .int .i64 Mt.side] 39) = w3 at *
    have hG3 := hp_up hG2 hb3
    have hQ3 := hp_up hQ2 hb3
    have hN2 : N ≤ w2.heap.size := Nat.le_trans hN1 hb2.size
    have hN3 : w2.heap.size ≤ w3.heap.size := hb3.size
    have HB3 := Lib.hid (below_step (below_step HB1.out hb2) hb3)
    have HK3 := Lib.hid (keeps_mono ((HK1.out.below (hb2.mono hN1)).below (hb3.mono hN2)) hN2)
    have HI3 := Lib.hid ((HI1.out.up hN1 hb2).up hN2 hb3)
    have HO3 := Lib.hid (hO2.up (Nat.le_refl _) hb3)
    have HS := Lib.hid (size_any bc r ks vn vt vm vc vb ve Mt ak a a0 a1 ck d d0 d1 w2.heap.size w3 hbc hr hks hfit hN3 HO3.out HK3.out)
    rw [HSZ.out] at HS
    unfold PosV at HS
    rw [HML.out] at HS hX3
    have l2 : w2.heap.size < w3.heap.size := bx_lt hX3
    clear hG1 hG2 hQ1 hQ2 hb2 hb3 HB1 HK1 HI1 hO2 HPP1 hfit
    generalize w2.heap.size = x2 at *
    by_cases hw : ways (countN m q) ≤ 1099511627776
    · rw [if_pos hw] at HS HV
      go_upto_region 7 with (first | (refine wpList_load_row rfl 35 (.tmp 2) rfl w.heap.size rfl 35 _ (0, 0) _ hG3 Try.underlying35 rfl info_game ?_) | (refine wpList_load_row rfl 39 (.tmp 6) rfl x2 rfl 39 _ (0, 0) _ hX3 Try.underlying39 rfl info_mat ?_) | (go_at_call 14; refine HS.out.mono ?_; rintro e w4 ⟨rfl, hb4⟩))
      have HF := Lib.hid (show V = (rankS (pad (countN m q)) q, 0) by rw [← HV.out, rank_pad (by rw [countN_len]; exact hm13)]; simp)
      have hX4 := hp_up hX3 hb4
      have hQ4 := hp_up hQ3 hb4
      have hI4 := Lib.hid (HI3.out.up (show N ≤ w3.heap.size by omega) hb4)
      have HO4 := Lib.hid (HO3.out.up hN3 hb4).cells
      rw [HMC.out] at HO4
      have hll : (countN m q).length = m := countN_len m q
      have hsum : (countN m q).sum = q.length := HCT.out.1.symm
      have HFA := Lib.hid (filling_any (countN m q) a d x2 w4 (by omega) (by omega) hw (by have := hb4.size; omega) HO4.out)
      rw [hll] at HFA
      have HCP := Lib.hid (counts_pad (by rw [hll]; exact hm13) HCT.out)
      have HWP := Lib.hid (show ways (pad (countN m q)) ≤ 1099511627776 by rw [ways_pad (by rw [hll]; exact hm13)]; exact hw)
      have HB4 := Lib.hid (below_step HB3.out hb4)
      have hN4 : N ≤ w4.heap.size := by have := hb4.size; omega
      have hx4 : w4.cell? ⟨x2, 0, none⟩ = some (.slice a m d) := bx_cell hX4 0 rfl
      have l4 := bx_lt hX4
      have hpl := pad_len (countN m q)
      generalize pad (countN m q) = P at *
      clear hX3 hQ3 hG3 hb4 HB3 HI3 HS HSZ HK3 HO3 HV hw hll hsum HCT HMC HML HO4 hN3 l2
      go_upto_region 9 with (go_at_call 37; refine HFA.out.mono ?_; rintro e w5 ⟨rfl, hF5, hb5⟩)
      have hQ5 := hp_up hQ4 hb5
      have hI5 := hI4.out.up hN4 hb5
      have HB5 := Lib.hid (below_step HB4.out hb5)
      have hs5 := hb5.size
      have hwx : w.heap.size + 1 < w4.heap.size := bx_lt hQ4
      generalize hxx : w4.heap.size = h at *
      have HXX := Lib.hid hxx
      clear hxx hX4 hQ4 hI4 HFA HB4 hb5 hx4 l4
      unfold waysV putV
      have k5 : w5.cell? ⟨w.heap.size + 1, 0, none⟩ = some (.slice b q.length c) := bx_cell hQ5 0 rfl
      obtain ⟨TT, hTT⟩ : ∃ TT, rankS P q = TT := ⟨_, rfl⟩
      have hTle : TT < ways P := by rw [← hTT]; exact rank_lt HCP.out
      have hTb : TT ≤ 1099511627776 := by have := HWP.out; omega
      rw [hTT] at HF
      have HTT := Lib.hid hTT
      have HF5 := Lib.hid hF5
      clear hTT hTle hQ5 hF5 hN2
      go_wp2
      go_loopw [11, 40] (fun v i wr => ∃ (k R : Nat) (Pk : List Nat), k ≤ q.length ∧ i = .int .i64 k ∧ v = .int .i64 R ∧ Hid (R + rankS Pk (q.drop k) = TT) ∧ Hid (Counts Pk (q.drop k)) ∧ Hid (Pk.length = 13) ∧ Hid (ways Pk ≤ 1099511627776) ∧ Hid (FB wr h Pk) ∧ Hid (Below h w5 wr)) (fun _ i _ => q.length - (intOf i).toNat)
      case atStart => exact ⟨0, 0, P, Nat.zero_le _, rfl, rfl, Lib.hid (by rw [List.drop_zero, Nat.zero_add]; exact HTT.out), Lib.hid (by rw [List.drop_zero]; exact HCP.out), Lib.hid hpl, HWP, HF5, Lib.hid (Below.refl _ _)⟩
      case round =>
        clear k5
        obtain ⟨k, R, Pk, hk, rfl, rfl, HR, HC, HPL, HW, HFB, HBr⟩ := hrel
        by_cases hlt : k < q.length
        · obtain ⟨bb, off, rfl, hc5⟩ := hI5.zat hlt
          have hbN : bb < N := by
            rcases hI5 with e | ⟨b2, off2, e, hn, _⟩
            · have := congrArg List.length e; rw [zs_len] at this; simp only [List.length_nil] at this; omega
            · cases e; exact hn
          have hc : wr.cell? ⟨bb, off + k, none⟩ = some (.int .i64 ((q.getD k 0 : Nat) : Int)) := (HBr.out.cell (p := ⟨bb, off + k, none⟩) (by show bb < h; omega)).trans hc5
          have hxm : q.getD k 0 < m := HQM.out _ (by rw [List.getD_eq_getElem?_getD, List.getElem?_eq_getElem hlt, Option.getD_some]; exact List.getElem_mem hlt)
          have hdr : q.drop k = q.getD k 0 :: q.drop (k + 1) := by rw [List.drop_eq_getElem_cons hlt, List.getD_eq_getElem?_getD, List.getElem?_eq_getElem hlt, Option.getD_some]
          have hC := HC.out
          rw [hdr] at hC HR
          obtain ⟨n, hn⟩ : ∃ n, n = (q.drop (k + 1)).length := ⟨_, rfl⟩
          have hn64 : n < 64 := by rw [hn, List.length_drop]; omega
          have hsum : Pk.sum = n + 1 := by rw [hn, ← hC.1, List.length_cons]
          generalize q.getD k 0 = x at *
          obtain ⟨hx0, hC2⟩ := counts_tail hC
          have HC2 := Lib.hid hC2
          have hRS : R + (below Pk x + rankS (dec Pk x) (q.drop (k + 1))) = TT := HR.out
          have HRS := Lib.hid hRS
          have hRT : R + below Pk x ≤ TT := by omega
          have hx13 : x < 13 := by omega
          have HPUT := Lib.hid (fun W (hF : FB W h Pk) => putf_any Pk h x n W hx13 hF hsum hn64 HW.out hx0)
          have HWY := Lib.hid (fun y W (hy : y < 13) (hF : FB W h Pk) => waysf_any Pk h y n W hy hF hsum hn64 HW.out)
          have HW2 := Lib.hid (show ways (dec Pk x) ≤ 1099511627776 by rw [← term_of hx0]; exact Nat.le_trans (term_le hsum x) HW.out)
          have HL2 := Lib.hid (show (dec Pk x).length = 13 by rw [dec_length]; exact HPL.out)
          have hsr : h ≤ wr.heap.size := Nat.le_trans hs5 HBr.out.size
          clear hI5 hc5 hdr hC hC2 HR HC hRS hsum hn hx0 HW HPL
          go_upto_region 13 with (fail)
          go_loopw [11, 14, 45] (fun v _ i wi => ∃ (y R' z : Nat), y ≤ x ∧ i = .int .i64 y ∧ v = .int .i64 R' ∧ Hid (R' = R + below Pk y) ∧ wi = wr.drewN z) (fun _ _ i _ => x - (intOf i).toNat)
          case atStart => exact ⟨0, R, 0, Nat.zero_le _, rfl, rfl, Lib.hid rfl, rfl⟩
          case round =>
            obtain ⟨y, R', z, hy, rfl, rfl, HRy, rfl⟩ := hrel
            by_cases hyx : y < x
            · have HCA := Lib.hid (HWY.out y (wr.drewN z) (by omega) (HFB.out.up (below_drewN_ (Below.refl _ _) z)))
              have hb9 : R' + term Pk y ≤ TT := by
                have h1 := below_le Pk (show y + 1 ≤ x by omega)
                have h2 : below Pk (y + 1) = below Pk y + term Pk y := rfl
                have := HRy.out
                omega
              have HRn := Lib.hid (show R' + term Pk y = R + below Pk (y + 1) by
                have h2 : below Pk (y + 1) = below Pk y + term Pk y := rfl
                have := HRy.out
                omega)
              generalize term Pk y = T at *
              have t1 : decide ((y : Int) < (x : Int)) = true := by simp; omega
              clear HRy
              go_wp2_with (go_at_call 48; refine HCA.out.mono ?_; rintro e w' ⟨rfl, z2, rfl⟩)
              go_roundw
              case rel => exact ⟨y + 1, R' + T, z + z2, by omega, by go_num, by go_num, HRn, rfl⟩
              case measure => simp [intOf]; omega
            · obtain rfl : y = x := by omega
              have t1 : decide ((y : Int) < (y : Int)) = false := by simp
              have HPT := Lib.hid (HPUT.out (wr.drewN z) (HFB.out.up (below_drewN_ (Below.refl _ _) z)))
              have HR9 := Lib.hid (show R' + rankS (dec Pk y) (q.drop (k + 1)) = TT by have := HRS.out; have := HRy.out; omega)
              have hBd := Lib.hid (HBr.out.trans (below_drewN_ ((Below.refl wr.heap.size wr).mono hsr) z))
              have hsd : h ≤ (wr.drewN z).heap.size := hsr
              clear HRy HRS hRT hc
              generalize wr.drewN z = wz at *
              go_wp2_with (go_at_call 49; refine HPT.out.mono ?_; rintro e w' ⟨⟨vv, rfl⟩, hF9, ha9⟩)
              go_roundw
              case rel => exact ⟨k + 1, R', dec Pk y, by omega, by go_num, rfl, HR9, HC2, HL2, HW2, Lib.hid hF9, Lib.hid (hBd.out.trans (ha9.below hsd (fun j hj => hj.1)))⟩
              case measure => simp [intOf]; omega
        · obtain rfl : k = q.length := by omega
          have HRT := Lib.hid (show R = TT by have := HR.out; rw [List.drop_length] at this; exact this)
          go_wp2
          go_ret2
          exact ⟨by rw [HF.out, ← HRT.out]; rfl, HB5.out.trans (HBr.out.mono (by omega))⟩
    · rw [if_neg hw] at HS HV
      have HF := Lib.hid (show V = (0, 2) by rw [← HV.out]; simp)
      go_wp2_with (first | (refine wpList_load_row rfl 35 (.tmp 2) rfl w.heap.size rfl 35 _ (0, 0) _ hG3 Try.underlying35 rfl info_game ?_) | (refine wpList_load_row rfl 39 (.tmp 6) rfl x2 rfl 39 _ (0, 0) _ hX3 Try.underlying39 rfl info_mat ?_) | (go_at_call 14; refine HS.out.mono ?_; rintro e w4 ⟨rfl, hb4⟩))
      go_ret2
      exact ⟨by rw [HF.out]; rfl, below_step HB3.out hb4⟩
end Go.Proofs.Ytepbmgbomdekaaa
