/-
  PosFinds returns true, given that the examples do.
-/

import Derived.Test.YtphhkfelpckilaaGreatDoorGGame
import Derived.Test.YtphhkfelpckilaaGreatDoorPRSort
import Derived.Test.YtphhkfelpckilaaGreatDoorDParse
import Derived.Deep.QuietTactic
namespace Go.Proofs.YtphhkfelpckilaaGreatDoor
open Go Go.RowKit Go.Lib Go.Sort
attribute [local irreducible] Go.wpQuiet

set_option maxRecDepth 100000 in
set_option maxHeartbeats 1500000 in
theorem pfnd_any (Lib4 : World → Prop) (hS : ∀ W, Lib4 W → Calls Tryz.prog 12 #[] W fun e w' => e = .returned (.bool true) ∧ Below W.heap.size W w')
    (hUp : ∀ W W', Lib4 W → Below W.heap.size W W' → Lib4 W')
    (x : GRaw) (a0 a1 a2 : Option Addr) (c0 c1 c2 N : Nat) (l : List PRaw) (y : PRaw) (al : Option Addr) (cl : Nat) (w : World) (hL : Lib4 w) (hN : N ≤ w.heap.size) (hI : GRawIn N w a0 a1 a2 x) (hl : PRs N w al l) (hy : y.Ok) :
    Calls Tryz.prog 6 #[.agg (x.cells a0 a1 a2 c0 c1 c2), .slice al l.length cl, .agg y.cells] w fun e w' => e = .returned (.bool true) ∧ Below w.heap.size w w' := by
  have HMG := Lib.hid (fun W h => made_game x a0 a1 a2 c0 c1 c2 N W h)
  have hsx : (x.cells a0 a1 a2 c0 c1 c2).size = 12 := rfl
  have hshY : y.cells.size = 18 := rfl
  have HMY := Lib.hid (fun bc r ks vn vt vm vc vb ve ak ck N W h1 h2 h3 h5 h6 => made_pos bc r ks vn vt vm vc vb ve ak ck N y W h1 h2 h3 hy h5 h6)
  generalize y.cells = ys at *
  generalize x.cells a0 a1 a2 c0 c1 c2 = xs at *
  go_enter Tryz.func6, Tryz.ntmps6
  go_upto_region 1 with (fail)
  have hb0 : Below w.heap.size w ((w.alloc (.cells xs 27)).alloc (.cells ys 61)) := below_alloc (below_alloc (Below.refl _ _) _) _
  have hX0 : ((w.alloc (.cells xs 27)).alloc (.cells ys 61)).heap[w.heap.size]? = some (.cells xs 27 (0, 0)) := hp_old_at (World.alloc_heap_new _ _)
  have hY0 : ((w.alloc (.cells xs 27)).alloc (.cells ys 61)).heap[w.heap.size + 1]? = some (.cells ys 61 (0, 0)) := hp_new_at _ _ (by simp)
  generalize ((w.alloc (.cells xs 27)).alloc (.cells ys 61)) = w0 at *
  go_wp2_with fail
  refine (hS w0 (hUp _ _ hL hb0)).mono ?_
  rintro e w1 ⟨rfl, hb1⟩
  have hX1 := (hb1.block _ (bx_lt hX0)).trans hX0
  have hY1 := (hb1.block _ (bx_lt hY0)).trans hY0
  have hbw1 := below_step hb0 hb1
  have hI1 := hI.up hN hbw1
  have hN1 := Nat.le_trans hN hbw1.size
  clear hX0 hY0 hb0 hb1 hS hUp hL
  go_wp2_with (with_reducible refine wpList_load_row rfl 27 (.tmp 3) rfl w.heap.size rfl 27 xs (0, 0) _ hX1 Tryz.underlying27 rfl (by rw [hsx]; exact info_raw3) ?_)
  refine (HMG.out _ hN1 hI1).mono ?_
  rintro e w2 ⟨bc, r, ks, an, at_, ak, ac, ln, cn, lt, ct, ck, lc, cc, mu, bl, en, rfl, hK, hbc, hr, hks, hb2⟩
  have hY2 := (hb2.block _ (bx_lt hY1)).trans hY1
  have hgx := bx_lt hY2
  have hbw2 := below_step hbw1 hb2
  have hwg := hbw2.size
  clear hX1 hY1 hb2 hI1 HMG hbw1 hN1
  go_upto_region 3 with (fail)
  have hG3 : (w2.alloc (.cells #[.int .i64 (bc : Int), .slice an ln cn, .slice at_ lt ct, .slice ak ks.length ck, .int .i64 (r : Int), .bool mu, .slice ac lc cc, .int .i64 bl, .int .i64 en] 41)).heap[w2.heap.size]? = some (.cells #[.int .i64 (bc : Int), .slice an ln cn, .slice at_ lt ct, .slice ak ks.length ck, .int .i64 (r : Int), .bool mu, .slice ac lc cc, .int .i64 bl, .int .i64 en] 41 (0, 0)) := World.alloc_heap_new _ _
  have hb23 := below_alloc (Below.refl _ w2) (.cells #[.int .i64 (bc : Int), .slice an ln cn, .slice at_ lt ct, .slice ak ks.length ck, .int .i64 (r : Int), .bool mu, .slice ac lc cc, .int .i64 bl, .int .i64 en] 41)
  have hY3 := (hb23.block _ (bx_lt hY2)).trans hY2
  have hK3 := hK.below hb23
  have hbw3 := below_step hbw2 hb23
  have hN3 := hb23.size
  have hs3 : (w2.alloc (.cells #[.int .i64 (bc : Int), .slice an ln cn, .slice at_ lt ct, .slice ak ks.length ck, .int .i64 (r : Int), .bool mu, .slice ac lc cc, .int .i64 bl, .int .i64 en] 41)).heap.size = w2.heap.size + 1 := by simp
  generalize (w2.alloc (.cells #[.int .i64 (bc : Int), .slice an ln cn, .slice at_ lt ct, .slice ak ks.length ck, .int .i64 (r : Int), .bool mu, .slice ac lc cc, .int .i64 bl, .int .i64 en] 41)) = w3 at *
  generalize w2.heap.size = gb at *
  have HIG : (Tryz.prog.info? 41).map (·.size) = some (#[.int .i64 (bc : Int), .slice an ln cn, .slice at_ lt ct, .slice ak ks.length ck, .int .i64 (r : Int), .bool mu, .slice ac lc cc, .int .i64 bl, .int .i64 en] : Array Value).size := info_game9
  clear hY2 hK hb23 hbw2
  have hlb := PRs.mono (RowIn.up hl hN hbw3) (Nat.le_trans hN hwg)
  go_wp2_with (with_reducible refine wpList_load_row rfl 41 (.tmp 8) rfl gb rfl 41 _ (0, 0) _ hG3 Tryz.underlying41 rfl HIG ?_)
  refine (many_any bc r ks (.slice an ln cn) (.slice at_ lt ct) (.bool mu) (.slice ac lc cc) (.int .i64 bl) (.int .i64 en) ak ck gb l al cl 14 w3 hbc hr hks (by omega) hN3 hK3 hlb).mono ?_
  rintro e w4 ⟨L, ga, ca, rfl, hLM, hLO, hLA, hLG, hb34⟩
  have hG4 := (hb34.block _ (bx_lt hG3)).trans hG3
  have hY4 := (hb34.block _ (bx_lt hY3)).trans hY3
  have hK4 := hK3.below (hb34.mono hN3)
  have hN4 := Nat.le_trans hN3 hb34.size
  have hbw4 := below_step hbw3 hb34
  have hL12 : L.length ≤ 14 := by
    have := congrArg List.length hLM
    simp at this; omega
  clear hLM hbw3 hb34 hG3 hK3 hlb hY3 hN3
  have hLK := hLA.ok (fun x hx => (hLG x hx).fit)
  go_wp2_with fail
  refine (rsort_any L (some ⟨ga, 0, none⟩) ca w4.heap.size w4 (by omega) (ps_cap hLO) (Nat.le_refl _) hLK (.inr ⟨ga, 0, rfl, hLO.at0⟩)).mono ?_
  rintro e w5 ⟨R, gs, cs, rfl, hRS, hRO, hRL, hb45⟩
  have hG5 := (hb45.block _ (bx_lt hG4)).trans hG4
  have hY5 := (hb45.block _ (bx_lt hY4)).trans hY4
  have hK5 := hK4.below (hb45.mono hN4)
  have hN5 := Nat.le_trans hN4 hb45.size
  have hbw5 := below_step hbw4 hb45
  have hs45 := hb45.size
  have HRK : Hid (∀ x ∈ R, AOk w5.heap.size w5 x) := Lib.hid (fun x hx => ((hLK x (hRL x hx)).up (Nat.le_refl _) hb45).mono hs45)
  have HRP := Lib.hid hRO.at0
  have hR12 : R.length ≤ 14 := by
    have h1 := congrArg List.length hRS
    have h2 := sortS_len (L.map (·.p))
    simp at h1 h2; omega
  have HSR := Lib.hid (show Srt (R.map (·.p)) by rw [hRS]; exact sortS_srt _)
  have HG5 := Lib.hid hG5
  have HY5 := Lib.hid hY5
  have HK5 := Lib.hid hK5
  have HBW5 := Lib.hid hbw5
  have hgl := bx_lt hG5
  have hyl := bx_lt hY5
  clear hLO hLA hLG hLK hb45 hbw4 hG4 hY4 hK4 hN4 hRS hRO hRL hG5 hY5 hK5 hbw5
  go_upto_block 0 with (fail)
  go_wp2_with fail
  go_loopw [10] (fun i wr => ∃ k : Nat, k ≤ R.length ∧ i = .int .i64 k ∧ Hid (Below w5.heap.size w5 wr)) (fun i _ => R.length - (intOf i).toNat)
  case atStart => exact ⟨0, Nat.zero_le _, rfl, Lib.hid (Below.refl _ _)⟩
  case round =>
    obtain ⟨k, hk, rfl, hb⟩ := hrel
    by_cases hlt : k < R.length
    · skip
      have t2 : decide (k < R.length) = true := by simpa using hlt
      have t2' : decide ((k : Int) < (R.length : Int)) = true := by simpa using hlt
      obtain ⟨x, hx⟩ : ∃ x, R[k] = x := ⟨_, rfl⟩
      obtain ⟨c0, c1, c2, c3, c4⟩ := (HRP.out.up hb.out).cells hlt hx
      have hxR : x ∈ R := by rw [← hx]; exact List.getElem_mem _
      have hsw := hb.out.size
      have HH := find_any R x (some ⟨gs, 0, none⟩) cs w5.heap.size wr hsw (by omega) HSR.out (fun z hz => (HRK.out z hz).up (Nat.le_refl _) hb.out) ((HRK.out x hxR).up (Nat.le_refl _) hb.out) ⟨gs, 0, rfl, HRP.out.up hb.out⟩
      rw [findS_at HSR.out (i := k) (by simpa using hlt) (p := x.p) (by simp [hx])] at HH
      unfold PosA.val PosV at HH
      have HH2 := Lib.hid HH
      have t4 : (0 : Int) ≤ (k : Int) := by omega
      have t5 : (k : Int) < (R.length : Int) := by omega
      clear hx hxR HH hsw
      go_wp2_with fail
      refine HH2.out.mono ?_
      rintro e w6 ⟨rfl, hb1⟩
      have HBN := Lib.hid (below_step hb.out hb1)
      clear c0 c1 c2 c3 c4 hb1 hb
      go_wp2_with fail
      go_roundw
      case rel => exact ⟨k + 1, by omega, by go_num, HBN⟩
      case measure => simp [intOf]; omega
    · have t2 : decide (k < R.length) = false := by simpa using hlt
      have t2' : decide ((k : Int) < (R.length : Int)) = false := by simpa using hlt
      generalize wr = w8 at *
      have hG8 := (hb.out.block _ hgl).trans HG5.out
      have hY8 := (hb.out.block _ hyl).trans HY5.out
      have hK8 := HK5.out.below (hb.out.mono hN5)
      have hN8 := Nat.le_trans hN5 hb.out.size
      have hbw8 := below_step HBW5.out hb.out
      have hs58 := hb.out.size
      clear hlt hk
      go_wp2_with (first | (with_reducible refine wpList_load_row rfl 41 (.tmp 8) rfl gb rfl 41 _ (0, 0) _ hG8 Tryz.underlying41 rfl HIG ?_) | (with_reducible refine wpList_load_row rfl 61 (.tmp 5) rfl (w.heap.size + 1) rfl 61 ys (0, 0) _ hY8 Tryz.underlying61 rfl (by rw [hshY]; exact info_raw4) ?_))
      refine (HMY.out bc r ks _ _ _ _ _ _ ak ck gb w8 hbc hr hks hN8 hK8).mono ?_
      rintro e w9 ⟨p, A, B0, B1, c, c0, c1, rfl, HPO, HPN, HPG, -, hb89⟩
      have hG9 := (hb89.block _ (bx_lt hG8)).trans hG8
      have hbw9 := below_step hbw8 hb89
      have hN9 := Nat.le_trans hN8 hb89.size
      have hK9 := hK8.below (hb89.mono hN8)
      have hsz9 := hb89.size
      have hb59 := below_step hb.out hb89
      clear hG8 hbw8 hN8 hK8 hb89  hY8
      go_upto_region 10 with (fail)
      have hP10 : (w9.alloc (.cells #[.slice (some ⟨A, 0, none⟩) p.cells.length c, .slice (some ⟨B0, 0, none⟩) p.h0.length c0, .slice (some ⟨B1, 0, none⟩) p.h1.length c1, .int .i64 p.rights, .int .i64 p.side] 32)).heap[w9.heap.size]? = some (.cells #[.slice (some ⟨A, 0, none⟩) p.cells.length c, .slice (some ⟨B0, 0, none⟩) p.h0.length c0, .slice (some ⟨B1, 0, none⟩) p.h1.length c1, .int .i64 p.rights, .int .i64 p.side] 32 (0, 0)) := World.alloc_heap_new _ _
      have hb910 := below_alloc (Below.refl _ w9) (.cells #[.slice (some ⟨A, 0, none⟩) p.cells.length c, .slice (some ⟨B0, 0, none⟩) p.h0.length c0, .slice (some ⟨B1, 0, none⟩) p.h1.length c1, .int .i64 p.rights, .int .i64 p.side] 32)
      have hb510 := below_step hb59 hb910
      clear hb59 hb
      have hG10 := (hb910.block _ (bx_lt hG9)).trans hG9
      have hK10 := hK9.below (hb910.mono hN9)
      have hN10 := Nat.le_trans hN9 hb910.size
      have hbw10 := below_step hbw9 hb910
      have HPO10 := HPO.up hb910
      have hsz10 : (w9.alloc (.cells #[.slice (some ⟨A, 0, none⟩) p.cells.length c, .slice (some ⟨B0, 0, none⟩) p.h0.length c0, .slice (some ⟨B1, 0, none⟩) p.h1.length c1, .int .i64 p.rights, .int .i64 p.side] 32)).heap.size = w9.heap.size + 1 := by simp
      generalize w9.alloc (.cells #[.slice (some ⟨A, 0, none⟩) p.cells.length c, .slice (some ⟨B0, 0, none⟩) p.h0.length c0, .slice (some ⟨B1, 0, none⟩) p.h1.length c1, .int .i64 p.rights, .int .i64 p.side] 32) = w10 at *
      generalize w9.heap.size = pb at *
      clear hG9 hK9 hbw9 HPO hb910 hN9 

      have hPI := HPO10.in_
      have hyk : AOk w10.heap.size w10 (⟨p, some ⟨A, 0, none⟩, some ⟨B0, 0, none⟩, some ⟨B1, 0, none⟩, c, c0, c1⟩ : PosA) := ⟨HPG.fit, hPI⟩
      have hs510 := hb510.size
      have HYK := Lib.hid hyk
      have HRK10 : Hid (∀ x ∈ R, AOk w10.heap.size w10 x) := Lib.hid (fun x hx => ((HRK.out x hx).up (Nat.le_refl _) hb510).mono hs510)
      have HRP10 := Lib.hid (HRP.out.up hb510)
      have HP10 := Lib.hid hP10
      have hpl := bx_lt hP10
      have HBW10 := Lib.hid hbw10
      have HF := Lib.hid (fun W (h : Below w10.heap.size w10 W) => find_any R ⟨p, some ⟨A, 0, none⟩, some ⟨B0, 0, none⟩, some ⟨B1, 0, none⟩, c, c0, c1⟩ (some ⟨gs, 0, none⟩) cs w10.heap.size W h.size (by omega) HSR.out (fun z hz => (HRK10.out z hz).up (Nat.le_refl _) h) (HYK.out.up (Nat.le_refl _) h) ⟨gs, 0, rfl, HRP10.out.up h⟩)
      have HH := Lib.hid (fun W (h : Below w10.heap.size w10 W) => has_any R ⟨p, some ⟨A, 0, none⟩, some ⟨B0, 0, none⟩, some ⟨B1, 0, none⟩, c, c0, c1⟩ (some ⟨gs, 0, none⟩) cs w10.heap.size W h.size (by omega) (fun z hz => (HRK10.out z hz).up (Nat.le_refl _) h) (HYK.out.up (Nat.le_refl _) h) (.inr ⟨gs, 0, rfl, HRP10.out.up h⟩))
      have HNI := Lib.hid (fun W => findnil_any ⟨p, some ⟨A, 0, none⟩, some ⟨B0, 0, none⟩, some ⟨B1, 0, none⟩, c, c0, c1⟩ W)
      unfold PosA.val PosV at HF HH HNI
      dsimp only at HF HH HNI
      have p0 := bx_cell hP10 0 rfl
      have p1 := bx_cell hP10 1 rfl
      have p2 := bx_cell hP10 2 rfl
      have p3 := bx_cell hP10 3 rfl
      have p4 := bx_cell hP10 4 rfl
      clear hPI hyk hb510 hG10 hK10 hbw10 HPO10 hP10 hN10 HPN hsz9 hsz10
      go_wp2_with fail
      refine (HF.out w10 (Below.refl _ _)).mono ?_
      rintro e w11 ⟨rfl, hb11⟩
      clear p0 p1 p2 p3 p4
      by_cases hmem : p ∈ R.map (·.p)
      · obtain ⟨j, hj, hjp⟩ := List.mem_iff_getElem.1 hmem
        have hjl : j < R.length := by simpa using hj
        obtain ⟨x, hx⟩ : ∃ x, R[j] = x := ⟨_, rfl⟩
        have hxp : x.p = p := by rw [← hx]; simpa using hjp
        have HFS := Lib.hid (show findS (R.map (·.p)) p = (j : Int) from findS_at HSR.out hj hjp)
        have HDM := Lib.hid (show decide (p ∈ R.map (·.p)) = true by simpa using hmem)
        rw [HFS.out]
        have hT := TwoB.of2 (HRP10.out.up hb11) (ps_one (y := ⟨p, some ⟨A, 0, none⟩, some ⟨B0, 0, none⟩, some ⟨B1, 0, none⟩, c, c0, c1⟩) ((hb11.block _ hpl).trans HP10.out)) hjl (show 0 < [(⟨p, some ⟨A, 0, none⟩, some ⟨B0, 0, none⟩, some ⟨B1, 0, none⟩, c, c0, c1⟩ : PosA)].length by simp) hx rfl
        rw [Nat.zero_add, Nat.zero_mul, Nat.add_zero] at hT
        have hxo := (HRK10.out x (by rw [← hx]; exact List.getElem_mem _)).up (Nat.le_refl _) hb11
        have hyo := HYK.out.up (Nat.le_refl _) hb11
        have hs11 := hb11.size
        have HQ := Lib.hid (fun W (h : Below w11.heap.size w11 W) => equal_any x.p p x.a x.a0 x.a1 (some ⟨A, 0, none⟩) (some ⟨B0, 0, none⟩) (some ⟨B1, 0, none⟩) x.c x.c0 x.c1 c c0 c1 w10.heap.size W hxo.fit (Nat.le_trans hs11 h.size) (hxo.lies.up hs11 h) (hyo.lies.up hs11 h))
        rw [eqB_iff, show decide (cmpP x.p p = 0) = true by rw [decide_eq_true_eq, cmpP_ok.eq0]; exact hxp] at HQ
        unfold PosV at HQ
        have HB11 := Lib.hid hb11
        clear hjp hj hxp hx hxo hyo hmem HF
        have t3 : decide ((j : Int) < -1) = false := by rw [decide_eq_false_iff_not]; omega
        have t4 : decide ((R.length : Int) ≤ (j : Int)) = false := by rw [decide_eq_false_iff_not]; omega
        have t5 : decide ((0 : Int) ≤ (j : Int)) = true := by rw [decide_eq_true_eq]; omega
        have t6 : (0 : Int) ≤ (j : Int) := by omega
        have t7 : (j : Int) < (R.length : Int) := by omega
        have t8 : decide (R.length ≤ j) = false := by simpa using hjl
        clear hb11
        go_upto_region 11 with (fail)
        refine wp_region_quiet (C := TwoB w11 gs (j * 5) pb 0 x ⟨p, some ⟨A, 0, none⟩, some ⟨B0, 0, none⟩, some ⟨B1, 0, none⟩, c, c0, c1⟩) (by as_aux_lemma => kernel_rfl) (by as_aux_lemma => kernel_rfl) (hT.up (Below.refl _ _).drew) ?_
        dsimp only
        refine wpQuiet_val (v := ?_) (by rfl) ?_ ?_
        rotate_left
        · ((intro W hW; (try cases hW); go_simp); try with_reducible rfl)
        (try simp only [Act.put, List.setIfInBounds_toArray, List.set_cons_zero, List.set_cons_succ])
        refine wpQuiet_val (v := ?_) (by rfl) ?_ ?_
        rotate_left
        · ((intro W hW; (try cases hW); go_simp); try with_reducible rfl)
        (try simp only [Act.put, List.setIfInBounds_toArray, List.set_cons_zero, List.set_cons_succ])
        refine wpQuiet_val (v := ?_) (by rfl) ?_ ?_
        rotate_left
        · ((intro W hW; (try cases hW); go_simp); try with_reducible rfl)
        (try simp only [Act.put, List.setIfInBounds_toArray, List.set_cons_zero, List.set_cons_succ])
        refine wpQuiet_val (v := ?_) (by rfl) ?_ ?_
        rotate_left
        · ((intro W hW; (try cases hW); go_simp); try with_reducible rfl)
        (try simp only [Act.put, List.setIfInBounds_toArray, List.set_cons_zero, List.set_cons_succ])
        refine wpQuiet_val (v := ?_) (by rfl) ?_ ?_
        rotate_left
        · ((intro W hW; (try cases hW); go_simp); try with_reducible rfl)
        (try simp only [Act.put, List.setIfInBounds_toArray, List.set_cons_zero, List.set_cons_succ])
        refine wpQuiet_val (v := ?_) (by rfl) ?_ ?_
        rotate_left
        · ((intro W hW; (try cases hW); go_simp); try with_reducible rfl)
        (try simp only [Act.put, List.setIfInBounds_toArray, List.set_cons_zero, List.set_cons_succ])
        refine wpQuiet_val (v := ?_) (by rfl) ?_ ?_
        rotate_left
        · ((intro W hW; (try cases hW); go_simp); try with_reducible rfl)
        (try simp only [Act.put, List.setIfInBounds_toArray, List.set_cons_zero, List.set_cons_succ])
        refine wpQuiet_val (v := ?_) (by rfl) ?_ ?_
        rotate_left
        · ((intro W hW; (try cases hW); go_simp); try with_reducible rfl)
        (try simp only [Act.put, List.setIfInBounds_toArray, List.set_cons_zero, List.set_cons_succ])
        refine wpQuiet_val (v := ?_) (by rfl) ?_ ?_
        rotate_left
        · ((intro W hW; (try cases hW); go_simp); try with_reducible rfl)
        (try simp only [Act.put, List.setIfInBounds_toArray, List.set_cons_zero, List.set_cons_succ])
        refine wpQuiet_val (v := ?_) (by rfl) ?_ ?_
        rotate_left
        · ((intro W hW; (try cases hW); go_simp); try with_reducible rfl)
        (try simp only [Act.put, List.setIfInBounds_toArray, List.set_cons_zero, List.set_cons_succ])
        refine wpQuiet_val (v := ?_) (by rfl) ?_ ?_
        rotate_left
        · ((intro W hW; (try cases hW); go_simp); try with_reducible rfl)
        (try simp only [Act.put, List.setIfInBounds_toArray, List.set_cons_zero, List.set_cons_succ])
        refine wpQuiet_val (v := ?_) (by rfl) ?_ ?_
        rotate_left
        · ((intro W hW; (try cases hW); go_simp); try with_reducible rfl)
        (try simp only [Act.put, List.setIfInBounds_toArray, List.set_cons_zero, List.set_cons_succ])
        refine wpQuiet_val (v := ?_) (by rfl) ?_ ?_
        rotate_left
        · ((intro W hW; (try cases hW); go_simp); try with_reducible rfl)
        (try simp only [Act.put, List.setIfInBounds_toArray, List.set_cons_zero, List.set_cons_succ])
        refine wpQuiet_val (v := ?_) (by rfl) ?_ ?_
        rotate_left
        · ((intro W hW; (try cases hW); go_simp); try with_reducible rfl)
        (try simp only [Act.put, List.setIfInBounds_toArray, List.set_cons_zero, List.set_cons_succ])
        refine wpQuiet_val (v := ?_) (by rfl) ?_ ?_
        rotate_left
        · ((intro W hW; (try cases hW); go_simp); try with_reducible rfl)
        (try simp only [Act.put, List.setIfInBounds_toArray, List.set_cons_zero, List.set_cons_succ])
        refine wpQuiet_val (v := ?_) (by rfl) ?_ ?_
        rotate_left
        · ((intro W hW; (try cases hW); go_simp); try with_reducible rfl)
        (try simp only [Act.put, List.setIfInBounds_toArray, List.set_cons_zero, List.set_cons_succ])
        refine wpQuiet_val (v := ?_) (by rfl) ?_ ?_
        rotate_left
        · ((intro W hW; (try cases hW); go_simp); try with_reducible rfl)
        (try simp only [Act.put, List.setIfInBounds_toArray, List.set_cons_zero, List.set_cons_succ])
        refine wpQuiet_val (v := .bool true) (by rfl) (fun W hW => ?_) ?_
        · go_simp
          exact (HQ.out W hW.b).mono fun e w' ⟨he, hb⟩ => ⟨he, hW.up hb⟩
        (try simp only [Act.put, List.setIfInBounds_toArray, List.set_cons_zero, List.set_cons_succ])
        refine wpQuiet_val (v := ?_) (by rfl) ?_ ?_
        rotate_left
        · ((intro W hW; (try cases hW); go_simp); try with_reducible rfl)
        (try simp only [Act.put, List.setIfInBounds_toArray, List.set_cons_zero, List.set_cons_succ])
        refine wpQuiet_val (v := ?_) (by rfl) ?_ ?_
        rotate_left
        · ((intro W hW; (try cases hW); go_simp); try with_reducible rfl)
        (try simp only [Act.put, List.setIfInBounds_toArray, List.set_cons_zero, List.set_cons_succ])
        refine wpQuiet_val (v := ?_) (by rfl) ?_ ?_
        rotate_left
        · ((intro W hW; (try cases hW); go_simp); try with_reducible rfl)
        (try simp only [Act.put, List.setIfInBounds_toArray, List.set_cons_zero, List.set_cons_succ])
        refine wpQuiet_nil (fun w12 hW => ?_)
        have hb12 := below_step HB11.out hW.b
        clear hT hW HQ HB11
        have hP12 := (hb12.block _ hpl).trans HP10.out
        have p0 := bx_cell hP12 0 rfl
        have p1 := bx_cell hP12 1 rfl
        have p2 := bx_cell hP12 2 rfl
        have p3 := bx_cell hP12 3 rfl
        have p4 := bx_cell hP12 4 rfl
        clear hP12
        go_wp2_with fail
        refine (HH.out w12 hb12).mono ?_
        rintro e w13 ⟨rfl, hb123⟩
        have hb13 := below_step hb12 hb123
        rw [HDM.out]
        have hP13 := (hb13.block _ hpl).trans HP10.out
        clear p0 p1 p2 p3 p4
        have p0 := bx_cell hP13 0 rfl
        have p1 := bx_cell hP13 1 rfl
        have p2 := bx_cell hP13 2 rfl
        have p3 := bx_cell hP13 3 rfl
        have p4 := bx_cell hP13 4 rfl
        clear hP13
        go_wp2_with fail
        refine (HNI.out w13).mono ?_
        rintro e w14 ⟨rfl, hb134⟩
        have HBE := Lib.hid (below_step HBW10.out (below_step hb13 hb134))
        clear p0 p1 p2 p3 p4 hb12 hb123 hb13 hb134
        go_wp2
        go_ret
        exact ⟨rfl, HBE.out⟩
      · have HFS := Lib.hid (findS_none hmem)
        have HDM := Lib.hid (show decide (p ∈ R.map (·.p)) = false by simpa using hmem)
        rw [HFS.out]
        clear HF hmem
        have t4 : decide ((R.length : Int) ≤ -1) = false := by rw [decide_eq_false_iff_not]; omega
        go_upto_region 11 with (fail)
        refine wp_region_quiet (C := fun W => Below w11.heap.size w11 W) (by as_aux_lemma => kernel_rfl) (by as_aux_lemma => kernel_rfl) ((Below.refl _ _).drew) ?_
        dsimp only
        refine wpQuiet_val (v := ?_) (by rfl) ?_ ?_
        rotate_left
        · ((intro W hW; (try cases hW); go_simp); try with_reducible rfl)
        (try simp only [Act.put, List.setIfInBounds_toArray, List.set_cons_zero, List.set_cons_succ])
        refine wpQuiet_val (v := ?_) (by rfl) ?_ ?_
        rotate_left
        · ((intro W hW; (try cases hW); go_simp); try with_reducible rfl)
        (try simp only [Act.put, List.setIfInBounds_toArray, List.set_cons_zero, List.set_cons_succ])
        refine wpQuiet_val (v := ?_) (by rfl) ?_ ?_
        rotate_left
        · ((intro W hW; (try cases hW); go_simp); try with_reducible rfl)
        (try simp only [Act.put, List.setIfInBounds_toArray, List.set_cons_zero, List.set_cons_succ])
        refine wpQuiet_val (v := ?_) (by rfl) ?_ ?_
        rotate_left
        · ((intro W hW; (try cases hW); go_simp); try with_reducible rfl)
        (try simp only [Act.put, List.setIfInBounds_toArray, List.set_cons_zero, List.set_cons_succ])
        refine wpQuiet_val (v := ?_) (by rfl) ?_ ?_
        rotate_left
        · ((intro W hW; (try cases hW); go_simp); try with_reducible rfl)
        (try simp only [Act.put, List.setIfInBounds_toArray, List.set_cons_zero, List.set_cons_succ])
        refine wpQuiet_val (v := ?_) (by rfl) ?_ ?_
        rotate_left
        · ((intro W hW; (try cases hW); go_simp); try with_reducible rfl)
        (try simp only [Act.put, List.setIfInBounds_toArray, List.set_cons_zero, List.set_cons_succ])
        refine wpQuiet_val (v := ?_) (by rfl) ?_ ?_
        rotate_left
        · ((intro W hW; (try cases hW); go_simp); try with_reducible rfl)
        (try simp only [Act.put, List.setIfInBounds_toArray, List.set_cons_zero, List.set_cons_succ])
        refine wpQuiet_val (v := ?_) (by rfl) ?_ ?_
        rotate_left
        · ((intro W hW; (try cases hW); go_simp); try with_reducible rfl)
        (try simp only [Act.put, List.setIfInBounds_toArray, List.set_cons_zero, List.set_cons_succ])
        refine wpQuiet_val (v := ?_) (by rfl) ?_ ?_
        rotate_left
        · ((intro W hW; (try cases hW); go_simp); try with_reducible rfl)
        (try simp only [Act.put, List.setIfInBounds_toArray, List.set_cons_zero, List.set_cons_succ])
        refine wpQuiet_val (v := ?_) (by rfl) ?_ ?_
        rotate_left
        · ((intro W hW; (try cases hW); go_simp); try with_reducible rfl)
        (try simp only [Act.put, List.setIfInBounds_toArray, List.set_cons_zero, List.set_cons_succ])
        refine wpQuiet_val (v := ?_) (by rfl) ?_ ?_
        rotate_left
        · ((intro W hW; (try cases hW); go_simp); try with_reducible rfl)
        (try simp only [Act.put, List.setIfInBounds_toArray, List.set_cons_zero, List.set_cons_succ])
        refine wpQuiet_val (v := ?_) (by rfl) ?_ ?_
        rotate_left
        · ((intro W hW; (try cases hW); go_simp); try with_reducible rfl)
        (try simp only [Act.put, List.setIfInBounds_toArray, List.set_cons_zero, List.set_cons_succ])
        refine wpQuiet_off (by rfl) ?_
        (try simp only [Act.put, List.setIfInBounds_toArray, List.set_cons_zero, List.set_cons_succ])
        refine wpQuiet_off (by rfl) ?_
        (try simp only [Act.put, List.setIfInBounds_toArray, List.set_cons_zero, List.set_cons_succ])
        refine wpQuiet_off (by rfl) ?_
        (try simp only [Act.put, List.setIfInBounds_toArray, List.set_cons_zero, List.set_cons_succ])
        refine wpQuiet_off (by rfl) ?_
        (try simp only [Act.put, List.setIfInBounds_toArray, List.set_cons_zero, List.set_cons_succ])
        refine wpQuiet_off (by rfl) ?_
        (try simp only [Act.put, List.setIfInBounds_toArray, List.set_cons_zero, List.set_cons_succ])
        refine wpQuiet_off (by rfl) ?_
        (try simp only [Act.put, List.setIfInBounds_toArray, List.set_cons_zero, List.set_cons_succ])
        refine wpQuiet_off (by rfl) ?_
        (try simp only [Act.put, List.setIfInBounds_toArray, List.set_cons_zero, List.set_cons_succ])
        refine wpQuiet_val (v := ?_) (by rfl) ?_ ?_
        rotate_left
        · ((intro W hW; (try cases hW); go_simp); try with_reducible rfl)
        (try simp only [Act.put, List.setIfInBounds_toArray, List.set_cons_zero, List.set_cons_succ])
        refine wpQuiet_val (v := ?_) (by rfl) ?_ ?_
        rotate_left
        · ((intro W hW; (try cases hW); go_simp); try with_reducible rfl)
        (try simp only [Act.put, List.setIfInBounds_toArray, List.set_cons_zero, List.set_cons_succ])
        refine wpQuiet_nil (fun w12 hW => ?_)
        have hb12 := below_step hb11 hW
        clear hW hb11
        have hP12 := (hb12.block _ hpl).trans HP10.out
        have p0 := bx_cell hP12 0 rfl
        have p1 := bx_cell hP12 1 rfl
        have p2 := bx_cell hP12 2 rfl
        have p3 := bx_cell hP12 3 rfl
        have p4 := bx_cell hP12 4 rfl
        clear hP12
        go_wp2_with fail
        refine (HH.out w12 hb12).mono ?_
        rintro e w13 ⟨rfl, hb123⟩
        have hb13 := below_step hb12 hb123
        rw [HDM.out]
        have hP13 := (hb13.block _ hpl).trans HP10.out
        clear p0 p1 p2 p3 p4
        have p0 := bx_cell hP13 0 rfl
        have p1 := bx_cell hP13 1 rfl
        have p2 := bx_cell hP13 2 rfl
        have p3 := bx_cell hP13 3 rfl
        have p4 := bx_cell hP13 4 rfl
        clear hP13
        go_wp2_with fail
        refine (HNI.out w13).mono ?_
        rintro e w14 ⟨rfl, hb134⟩
        have HBE := Lib.hid (below_step HBW10.out (below_step hb13 hb134))
        clear p0 p1 p2 p3 p4 hb12 hb123 hb13 hb134
        go_wp2
        go_ret
        exact ⟨rfl, HBE.out⟩
end Go.Proofs.YtphhkfelpckilaaGreatDoor
