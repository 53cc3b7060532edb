/-
  IndexRanks.
-/
import Derived.Test.YtepbmgbomdekaaaXOfR
import Derived.Test.YtepbmgbomdekaaaXRkM
import Derived.Test.YtepbmgbomdekaaaXSanW
import Derived.Test.YtepbmgbomdekaaaXSame
import Derived.Test.YtepbmgbomdekaaaDRefC
namespace Go.Proofs.Ytepbmgbomdekaaa
open Go Go.RowKit

/-- The three boxes of the law. -/
structure RS (y mb : Nat) (G Y M : List Value) (W : World) : Prop where
  hg : W.heap[y]? = some (.cells G.toArray 35 (0, 0))
  hq : W.heap[y + 1]? = some (.cells Y.toArray 27 (0, 0))
  hm : W.heap[mb]? = some (.cells M.toArray 39 (0, 0))
theorem RS.up {y mb : Nat} {G Y M : List Value} {W W' : World} (h : RS y mb G Y M W) (hb : Below W.heap.size W W') : RS y mb G Y M W' := ⟨hp_up h.hg hb, hp_up h.hq hb, hp_up h.hm hb⟩
theorem fld_val {bc nk h : Nat} {q : List Nat} (hl : q.length = bc) (b b0 b1 : Option Addr) : PosV b b0 b1 bc nk nk (fldP nk q h) = .agg #[.slice b bc bc, .slice b0 nk nk, .slice b1 nk nk, .int .i64 1, .int .i64 0] := by
  unfold PosV fldP
  dsimp only
  rw [zs_len, hl, List.length_replicate, List.length_set, List.length_replicate]
theorem fld_val2 {bc nk h : Nat} {q : List Nat} (hl : q.length = bc) (b b0 b1 : Option Addr) (c c0 c1 : Nat) : PosV b b0 b1 c c0 c1 (fldP nk q h) = .agg #[.slice b bc c, .slice b0 nk c0, .slice b1 nk c1, .int .i64 1, .int .i64 0] := by
  unfold PosV fldP
  dsimp only
  rw [zs_len, hl, List.length_replicate, List.length_set, List.length_replicate]
theorem mat_val {m nk h : Nat} {q : List Nat} (a a0 a1 : Option Addr) (d d0 d1 : Nat) : PosV a a0 a1 d d0 d1 (matS m q (fldP nk q h)) = .agg #[.slice a m d, .slice a0 nk d0, .slice a1 nk d1, .int .i64 1, .int .i64 0] := by
  unfold PosV matS fldP
  dsimp only
  rw [zs_len, countN_len, List.length_replicate, List.length_set, List.length_replicate]
set_option maxRecDepth 100000 in
set_option maxHeartbeats 8000000 in
theorem ranks_any (z0 z1 : Nat) (al : Option Addr) (cl N : Nat) (l : List Nat) (w : World) (h0 : z0 ≤ 255) (h1 : z1 ≤ 255) (hU : U8s N w al l) (hN : N ≤ w.heap.size) :
    Calls Try.prog 4 #[.agg #[.int .u8 (z0 : Int), .int .u8 (z1 : Int)], .slice al l.length cl] w fun e w' => e = .returned (.bool true) ∧ Below w.heap.size w w' := by
  obtain ⟨bc, hbc⟩ : ∃ bc, bc = 1 + z0 % 64 := ⟨_, rfl⟩
  obtain ⟨nk, hnk⟩ : ∃ nk, nk = 1 + z1 % 3 := ⟨_, rfl⟩
  have hb64 : bc ≤ 64 := by omega
  have hb1 : 1 ≤ bc := by omega
  have hn1 : 1 ≤ nk := by omega
  have hn3 : nk ≤ 3 := by omega
  have HBC := Lib.hid hbc
  have HNK := Lib.hid hnk
  clear hbc hnk
  have HSA := Lib.hid (fun W => sanity_any W)
  have hX := World.alloc_heap_new w (.cells #[.int .u8 (z0 : Int), .int .u8 (z1 : Int)] 22)
  have hbx : Below w.heap.size w (w.alloc (.cells #[.int .u8 (z0 : Int), .int .u8 (z1 : Int)] 22)) := below_alloc (Below.refl _ _) _
  have hUx := hU.up hN hbx
  go_enter Try.func4, Try.ntmps4
  go_upto_region 1 with (fail)
  generalize w.alloc (.cells #[.int .u8 (z0 : Int), .int .u8 (z1 : Int)] 22) = w0 at *
  go_upto_region 2 with (go_at_call 9; refine (HSA.out _).mono ?_; rintro e w1 ⟨rfl, hbs⟩)
  have hX1 := hp_up hX hbs
  have hN0 : N ≤ w0.heap.size := by have := hbx.size; omega
  have hU1 := hUx.up hN0 hbs
  have hN1 : N ≤ w1.heap.size := by have := hbs.size; omega
  have hbw1 := below_step hbx hbs
  have x0 : w1.cell? ⟨w.heap.size, 0, none⟩ = some (.int .u8 (z0 : Int)) := bx_cell hX1 0 rfl
  have x1 : w1.cell? ⟨w.heap.size, 1, none⟩ = some (.int .u8 (z1 : Int)) := bx_cell hX1 1 rfl
  have lx := bx_lt hX1
  have HBD := Lib.hid (board_any z0 z1 bc nk al cl N l w1 h0 h1 HBC.out HNK.out hU1 hN1)
  clear hX hbx hUx hbs hU1 hU HSA hX1
  go_upto_region 3 with (go_at_call 10; refine HBD.out.mono ?_; rintro e w2 ⟨an, at_, ak, ck, g, g0, g1, q, n, rfl, hn, hk, hPO, hap, hql, hqm, hb2⟩)
  obtain ⟨hb3, hG, hQ, hS3⟩ := two_boxes w2 #[.int .i64 (bc : Int), .slice an 1 1, .slice at_ 1 1, .slice ak nk ck, .int .i64 2, .bool false, .slice none 0 0, .int .i64 3, .int .i64 2] #[.slice (some ⟨g, 0, none⟩) bc bc, .slice (some ⟨g0, 0, none⟩) nk nk, .slice (some ⟨g1, 0, none⟩) nk nk, .int .i64 1, .int .i64 0] 35 27
  obtain ⟨y, hy⟩ : ∃ y, y = w2.heap.size := ⟨_, rfl⟩
  have hPO3 := hPO.upx hb3
  have hk3 := hk.below (hb3.mono hn)
  have hbw3 := below_step (below_step hbw1 hb2) hb3
  have hsz := hb2.size
  generalize (w2.alloc (.cells #[.int .i64 (bc : Int), .slice an 1 1, .slice at_ 1 1, .slice ak nk ck, .int .i64 2, .bool false, .slice none 0 0, .int .i64 3, .int .i64 2] 35)).alloc (.cells #[.slice (some ⟨g, 0, none⟩) bc bc, .slice (some ⟨g0, 0, none⟩) nk nk, .slice (some ⟨g1, 0, none⟩) nk nk, .int .i64 1, .int .i64 0] 27) = w3 at *
  simp only [← hy] at hG hQ hn hsz hS3 ⊢
  have hn9 : n ≤ w3.heap.size := by omega
  have hSG : SG w y (GB bc nk an at_ ak ck) n ak (blankK nk) w3 := ⟨hbw3, hG, hn9, hk3⟩
  clear HBD hk hPO hb2 hb3 hbw1 hbw3 hk3 x0 x1 lx hy hS3 hN0 hN1
  obtain ⟨m, hm⟩ : ∃ m, m = 2 * nk + 1 := ⟨_, rfl⟩
  rw [← hm] at hqm
  have HMM := Lib.hid hm
  have hm13 : m ≤ 7 := by omega
  clear hm
  have hP3 : POwn w1.heap.size w3 (some ⟨g, 0, none⟩) (some ⟨g0, 0, none⟩) (some ⟨g1, 0, none⟩) bc nk nk (fldP nk q (l.length % 9)) := hPO3
  clear hPO3
  have HOF := Lib.hid (of_any (.int .i64 (bc : Int)) (.slice an 1 1) (.slice at_ 1 1) (.int .i64 2) (.bool false) (.slice none 0 0) (.int .i64 3) (.int .i64 2) (fldP nk q (l.length % 9)) q ak (some ⟨g, 0, none⟩) (some ⟨g0, 0, none⟩) (some ⟨g1, 0, none⟩) nk ck bc nk nk w3.heap.size m w3 (by omega) HMM.out rfl (by omega) hqm (by unfold fldP; simp; omega) (by unfold fldP; simp; omega) (by unfold fldP; simp; omega) (by unfold fldP; simp; omega) (Nat.le_refl _) hP3.pin)
  rw [fld_val hql] at HOF
  go_upto_region 4 with (first | (refine wpList_load_row rfl 35 (.tmp 6) rfl y rfl 35 _ (0, 0) _ hG Try.underlying35 rfl info_game ?_) | (refine wpList_load_row rfl 27 (.tmp 7) rfl (y + 1) rfl 27 _ (0, 0) _ hQ Try.underlying27 rfl info_pos ?_) | (go_at_call 11; refine HOF.out.mono ?_; rintro e w4 ⟨a, a0, a1, d, d0, d1, rfl, hM4, hb4⟩; rw [mat_val]))
  have hG4 := hSG.up hb4
  have hP4 := hP3.upx hb4
  have hQ4 := hp_up hQ hb4
  have hly := bx_lt hQ
  have hs4 := hb4.size
  have hb5 : Below w4.heap.size w4 (w4.alloc (.cells #[.slice a m d, .slice a0 nk d0, .slice a1 nk d1, .int .i64 1, .int .i64 0] 39)) := below_alloc (Below.refl _ _) _
  have hK5 := World.alloc_heap_new w4 (.cells #[.slice a m d, .slice a0 nk d0, .slice a1 nk d1, .int .i64 1, .int .i64 0] 39)
  have hG5 := hG4.up hb5
  have hP5 := hP4.upx hb5
  have hM5 := hM4.upx hb5
  have hQ5 := hp_up hQ4 hb5
  obtain ⟨mb, hmb⟩ : ∃ mb, mb = w4.heap.size := ⟨_, rfl⟩
  generalize w4.alloc (.cells #[.slice a m d, .slice a0 nk d0, .slice a1 nk d1, .int .i64 1, .int .i64 0] 39) = w5 at *
  simp only [← hmb] at hK5 hs4 ⊢
  clear HOF hG4 hP4 hQ4 hb4 hM4 hb5 hG hQ hP3 hSG hmb
  have HOR := Lib.hid (fun W (hW : POwn w1.heap.size W (some ⟨g, 0, none⟩) (some ⟨g0, 0, none⟩) (some ⟨g1, 0, none⟩) bc nk nk (fldP nk q (l.length % 9))) => rof_any (.int .i64 (bc : Int)) (.slice an 1 1) (.slice at_ 1 1) (.int .i64 2) (.bool false) (.slice none 0 0) (.int .i64 3) (.int .i64 2) (fldP nk q (l.length % 9)) q ak (some ⟨g, 0, none⟩) (some ⟨g0, 0, none⟩) (some ⟨g1, 0, none⟩) nk ck bc nk nk W.heap.size m W (by omega) HMM.out rfl (by omega) (by omega) hqm (by unfold fldP; simp; omega) (by unfold fldP; simp; omega) (by unfold fldP; simp; omega) (by unfold fldP; simp; omega) (Nat.le_refl _) hW.pin)
  rw [fld_val hql] at HOR
  have HPP := Lib.hid hP5
  have HMP := Lib.hid hM5
  have hlm := bx_lt hK5
  go_cut [30] (fun v wx => v = .bool false ∧ Below w5.heap.size w5 wx)
  case first =>
    have hd : Below w5.heap.size w5 w5.drew := (Below.refl _ _).drew
    have hS5 : (RS y mb [.int .i64 (bc : Int), .slice an 1 1, .slice at_ 1 1, .slice ak nk ck, .int .i64 2, .bool false, .slice none 0 0, .int .i64 3, .int .i64 2] [.slice (some ⟨g, 0, none⟩) bc bc, .slice (some ⟨g0, 0, none⟩) nk nk, .slice (some ⟨g1, 0, none⟩) nk nk, .int .i64 1, .int .i64 0] [.slice a m d, .slice a0 nk d0, .slice a1 nk d1, .int .i64 1, .int .i64 0]) w5 := ⟨hG5.hg, hQ5, hK5⟩
    have hPd := hP5.upx hd
    have hMd := hM5.upx hd
    refine wp_region_held_drew (S := (RS y mb [.int .i64 (bc : Int), .slice an 1 1, .slice at_ 1 1, .slice ak nk ck, .int .i64 2, .bool false, .slice none 0 0, .int .i64 3, .int .i64 2] [.slice (some ⟨g, 0, none⟩) bc bc, .slice (some ⟨g0, 0, none⟩) nk nk, .slice (some ⟨g1, 0, none⟩) nk nk, .int .i64 1, .int .i64 0] [.slice a m d, .slice a0 nk d0, .slice a1 nk d1, .int .i64 1, .int .i64 0])) (by kernel_rfl) (hS5.up hd) (fun hSD => ?_)
    generalize w5.drew = wD at *
    clear hG5 hP5 hM5 hQ5 hK5 hS5
    refine TX 0 (YL rfl 39 _ rfl mb 0 rfl _ [.slice a m d, .slice a0 nk d0, .slice a1 nk d1, .int .i64 1, .int .i64 0] _ _ (fun _ h => h.hm) rfl Try.underlying39 rfl info_mat) ?_
    (try simp only [pS])
    refine TX 1 (YL rfl 35 _ rfl y 0 rfl _ [.int .i64 (bc : Int), .slice an 1 1, .slice at_ 1 1, .slice ak nk ck, .int .i64 2, .bool false, .slice none 0 0, .int .i64 3, .int .i64 2] _ _ (fun _ h => h.hg) rfl Try.underlying35 rfl info_game) ?_
    (try simp only [pS])
    refine TX 2 (YL rfl 27 _ rfl (y + 1) 0 rfl _ [.slice (some ⟨g, 0, none⟩) bc bc, .slice (some ⟨g0, 0, none⟩) nk nk, .slice (some ⟨g1, 0, none⟩) nk nk, .int .i64 1, .int .i64 0] _ _ (fun _ h => h.hq) rfl Try.underlying27 rfl info_pos) ?_
    (try simp only [pS])
    refine wpAnyH_ready (rs := [3]) (by kernel_rfl) (by simp) ?_
    refine AC (i := 3) (fun K hK => ?_) AllReadyH.nil
    refine step_call_h rfl 13 _ _ #[.agg #[.int .i64 (bc : Int), .slice an 1 1, .slice at_ 1 1, .slice ak nk ck, .int .i64 2, .bool false, .slice none 0 0, .int .i64 3, .int .i64 2], .agg #[.slice (some ⟨g, 0, none⟩) bc bc, .slice (some ⟨g0, 0, none⟩) nk nk, .slice (some ⟨g1, 0, none⟩) nk nk, .int .i64 1, .int .i64 0]] rfl rfl (enters_of Try.func13 (by kernel_rfl) rfl) ((HOR.out _ hPd).mono ?_)
    rintro e w6 ⟨b, b0, b1, e0, e1, e2, rfl, hM6, hb6⟩
    have hS6 := hSD.up hb6
    rw [mat_val]
    refine ⟨_, rfl, hK.out _ _ hS6 (fun _ => ?_)⟩
    clear hK K
    (try simp only [pS])
    have HSM := Lib.hid (same_any (matS m q (fldP nk q (l.length % 9))) (matS m q (fldP nk q (l.length % 9))) a a0 a1 b b0 b1 d d0 d1 e0 e1 e2 w6.heap.size w6 (by have := mat_fit (nk := nk) (h := l.length % 9) (q := q) hn3; rw [HMM.out]; exact this) (Nat.le_refl _) (hMd.upx hb6).pin hM6.pin)
    rw [mat_val, mat_val, eqB_self] at HSM
    refine wpAnyH_ready (rs := [4]) (by kernel_rfl) (by simp) ?_
    refine AC (i := 4) (fun K hK => ?_) AllReadyH.nil
    refine step_call_h rfl 12 _ _ #[.agg #[.slice a m d, .slice a0 nk d0, .slice a1 nk d1, .int .i64 1, .int .i64 0], .agg #[.slice b m e0, .slice b0 nk e1, .slice b1 nk e2, .int .i64 1, .int .i64 0]] rfl rfl (enters_of Try.func12 (by kernel_rfl) rfl) (HSM.out.mono ?_)
    rintro e w7 ⟨rfl, hb7⟩
    have hS7 := hS6.up hb7
    refine ⟨_, rfl, hK.out _ _ hS7 (fun _ => ?_)⟩
    clear hK K HSM
    (try simp only [pS])
    have HF := Lib.hid ((hd.trans (hb6.mono hd.size)).trans (hb7.mono (Nat.le_trans hd.size hb6.size)))
    refine TC 5 ?_
    (try simp only [pS])
    refine wpAnyH_done (by kernel_rfl) ?_ _
    go_wp2_with fail
    go_meet
    case rel => exact ⟨rfl, HF.out⟩
  case rest =>
    obtain ⟨rfl, hb8⟩ := hcut
    generalize wc = w8 at *
    have hG8 := hG5.up hb8
    have hP8 := hP5.upx hb8
    have hM8 := hM5.upx hb8
    have hQ := hp_up hQ5 hb8
    have hK := hp_up hK5 hb8
    clear hG5 hP5 hM5 hQ5 hK5 hb8 HPP HMP HOR
    have hpu := ranks_pure (h := l.length % 9) hn1 (by omega) hql (by rw [← HMM.out]; exact hqm)
    rw [← HMM.out] at hpu
    have hfm : PosFit (matS m q (fldP nk q (l.length % 9))) := by rw [HMM.out]; exact mat_fit hn3
    have hfp : PosFit (fldP nk q (l.length % 9)) := fld_fit hb64 hn3 hql
    have HZ := Lib.hid (sizeG hb64 hn3 hG8 (c := d) (c0 := d0) (c1 := d1) hfm hM8.pin)
    obtain ⟨sn, se, hsv⟩ : ∃ sn se, sizeV bc 2 (blankK nk) (matS m q (fldP nk q (l.length % 9))) = (sn, se) := ⟨_, _, rfl⟩
    obtain ⟨rn, re, hrv⟩ : ∃ rn re, rankV bc 2 (blankK nk) (fldP nk q (l.length % 9)) = (rn, re) := ⟨_, _, rfl⟩
    rw [hsv, mat_val] at HZ
    rw [hsv, hrv] at hpu
    have HPU := Lib.hid hpu
    have HRV := Lib.hid hrv
    have HFM := Lib.hid hfm
    have HFP := Lib.hid hfp
    clear hpu hsv hrv hfm hfp
    have hG := hG8.hg
    go_upto_region 7 with (first | (refine wpList_load_row rfl 35 (.tmp 6) rfl y rfl 35 _ (0, 0) _ hG Try.underlying35 rfl info_game ?_) | (refine wpList_load_row rfl 39 (.tmp 8) rfl mb rfl 39 _ (0, 0) _ hK Try.underlying39 rfl info_mat ?_) | (go_at_call 14; refine HZ.out.mono ?_; rintro e w9 ⟨rfl, hb9⟩))
    replace hG8 := hG8.up hb9
    replace hP8 := hP8.upx hb9
    replace hM8 := hM8.upx hb9
    replace hQ := hp_up hQ hb9
    replace hK := hp_up hK hb9
    replace hG := hG8.hg
    have HR := Lib.hid (rankG hb64 hn1 hn3 hG8 (c := bc) (c0 := nk) (c1 := nk) HFP.out hP8.pin)
    rw [HRV.out, fld_val hql] at HR
    clear HZ hb9
    go_upto_region 8 with (first | (refine wpList_load_row rfl 35 (.tmp 6) rfl y rfl 35 _ (0, 0) _ hG Try.underlying35 rfl info_game ?_) | (refine wpList_load_row rfl 27 (.tmp 7) rfl (y + 1) rfl 27 _ (0, 0) _ hQ Try.underlying27 rfl info_pos ?_) | (go_at_call 21; refine HR.out.mono ?_; rintro e w10 ⟨rfl, hb10⟩))
    replace hG8 := hG8.up hb10
    replace hP8 := hP8.upx hb10
    replace hM8 := hM8.upx hb10
    replace hQ := hp_up hQ hb10
    replace hK := hp_up hK hb10
    replace hG := hG8.hg
    clear HR hb10
    rcases HPU.out with ⟨hw, hs, hr, hlt, hat⟩ | ⟨hw, hs, hr⟩
    · cases hs
      cases hr
      clear HPU HRV
      have HAT := Lib.hid (atG hb64 hn1 hn3 hG8 (c := d) (c0 := d0) (c1 := d1) HFM.out hM8.pin ((rankS (countN m q) q : Nat) : Int))
      rw [hat, mat_val] at HAT
      dsimp only at HAT
      go_upto_region 11 with (first | (refine wpList_load_row rfl 35 (.tmp 6) rfl y rfl 35 _ (0, 0) _ hG Try.underlying35 rfl info_game ?_) | (refine wpList_load_row rfl 39 (.tmp 8) rfl mb rfl 39 _ (0, 0) _ hK Try.underlying39 rfl info_mat ?_) | (go_at_call 18; refine HAT.out.mono ?_; rintro e w11 ⟨b, b0, b1, e0, e1, e2, rfl, hB, hb11⟩; rw [fld_val2 hql]))
      have hb12 : Below w11.heap.size w11 (w11.alloc (.cells #[.slice b bc e0, .slice b0 nk e1, .slice b1 nk e2, .int .i64 1, .int .i64 0] 27)) := below_alloc (Below.refl _ _) _
      have hN9 := World.alloc_heap_new w11 (.cells #[.slice b bc e0, .slice b0 nk e1, .slice b1 nk e2, .int .i64 1, .int .i64 0] 27)
      have hG9 := (hG8.up hb11).up hb12
      have hP9 := (hP8.upx hb11).upx hb12
      have hQ9 := hp_up (hp_up hQ hb11) hb12
      generalize w11.alloc (.cells #[.slice b bc e0, .slice b0 nk e1, .slice b1 nk e2, .int .i64 1, .int .i64 0] 27) = w12 at *
      have hC := Lib.hid (rcompare_any ⟨(fldP nk q (l.length % 9)), some ⟨g, 0, none⟩, some ⟨g0, 0, none⟩, some ⟨g1, 0, none⟩, bc, nk, nk⟩ ⟨(fldP nk q (l.length % 9)), b, b0, b1, e0, e1, e2⟩ w12.heap.size w12 ⟨HFP.out, hP9.pin⟩ ⟨HFP.out, (posin_mono (hB.up (Nat.le_refl _) hb12) hb12.size)⟩ (Nat.le_refl _))
      have hb99 := hG9.b
      unfold PosA.val at hC
      rw [fld_val2 hql, fld_val2 hql, cmpP_self] at hC
      generalize w11.heap.size = nb at *
      have hlt2 : ((rankS (countN m q) q : Nat) : Int) < ((ways (countN m q) : Nat) : Int) := by omega
      have p0 := bx_cell hQ9 0 rfl
      have n0 := bx_cell hN9 0 rfl
      have p1 := bx_cell hQ9 1 rfl
      have n1 := bx_cell hN9 1 rfl
      have p2 := bx_cell hQ9 2 rfl
      have n2 := bx_cell hN9 2 rfl
      have p3 := bx_cell hQ9 3 rfl
      have n3 := bx_cell hN9 3 rfl
      have p4 := bx_cell hQ9 4 rfl
      have n4 := bx_cell hN9 4 rfl
      go_wp2_with (go_at_call 20; refine hC.out.mono ?_; rintro e w13 ⟨rfl, hb13⟩)
      go_ret
      exact ⟨rfl, (hG9.up hb13).b⟩
    · cases hs
      cases hr
      go_wp2
      go_ret
      exact ⟨rfl, hG8.b⟩
end Go.Proofs.Ytepbmgbomdekaaa
