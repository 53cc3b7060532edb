/-
  PosTexts returns true.
-/

import Derived.Test.YtphhkfelpckilaaGreatDoorPTxA
import Derived.Test.YtphhkfelpckilaaGreatDoorPRVa
namespace Go.Proofs.YtphhkfelpckilaaGreatDoor
open Go Go.RowKit Go.Lib Go.Sort
attribute [local irreducible] Go.wpQuiet

set_option maxRecDepth 100000 in
set_option maxHeartbeats 3000000 in
theorem ptxt_any (x : GRaw) (a0 a1 a2 : Option Addr) (c0 c1 c2 N : Nat) (y z : PRaw) (u : List UInt8) (w : World) (hL : EnvIn w) (hN : N ≤ w.heap.size) (hI : GRawIn N w a0 a1 a2 x) (hy : y.Ok) (hz : z.Ok) :
    Calls Tryz.prog 9 #[.agg (x.cells a0 a1 a2 c0 c1 c2), .agg (y.cells ++ z.cells), .string ⟨u.toArray⟩] w fun e w' => e = .returned (.bool true) ∧ Below w.heap.size w w' := by
  have HMG := Lib.hid (fun W h => made_game x a0 a1 a2 c0 c1 c2 N W h)
  have HMY := Lib.hid (fun bc r ks vn vt vm vc vb ve ak ck N W h1 h2 h3 h5 h6 => made_posA bc r ks vn vt vm vc vb ve ak ck N y W h1 h2 h3 hy h5 h6)
  have HMZ := Lib.hid (fun bc r ks vn vt vm vc vb ve ak ck N W h1 h2 h3 h5 h6 => made_posA bc r ks vn vt vm vc vb ve ak ck N z W h1 h2 h3 hz h5 h6)
  have hsx : (x.cells a0 a1 a2 c0 c1 c2).size = 12 := rfl
  have hsys : y.cells.size = 18 := rfl
  have hszs : z.cells.size = 18 := rfl
  have hz0 : z.cells[0]? = some (.int .u8 (z.cell 0)) := rfl
  have hz1 : z.cells[1]? = some (.int .u8 (z.cell 1)) := rfl
  have hc0 := hz.cell 0
  have hc1 := hz.cell 1
  generalize y.cells = ys at *
  generalize z.cells = zs at *
  generalize z.cell 0 = k0 at *
  generalize z.cell 1 = k1 at *
  generalize x.cells a0 a1 a2 c0 c1 c2 = xs at *
  go_enter Tryz.func9, Tryz.ntmps9
  go_upto_region 1 with (fail)
  have hb0 : Below w.heap.size w ((w.alloc (.cells xs 27)).alloc (.cells (ys ++ zs) 67)) := below_alloc (below_alloc (Below.refl _ _) _) _
  have hX0 : ((w.alloc (.cells xs 27)).alloc (.cells (ys ++ zs) 67)).heap[w.heap.size]? = some (.cells xs 27 (0, 0)) := hp_old_at (World.alloc_heap_new _ _)
  have hY0 : ((w.alloc (.cells xs 27)).alloc (.cells (ys ++ zs) 67)).heap[w.heap.size + 1]? = some (.cells (ys ++ zs) 67 (0, 0)) := hp_new_at _ _ (by simp)
  generalize ((w.alloc (.cells xs 27)).alloc (.cells (ys ++ zs) 67)) = w0 at *
  go_wp2_with fail
  refine (sanity_any w0 (hL.up hb0)).mono ?_
  rintro e w1 ⟨rfl, hb1⟩
  have hX1 := (hb1.block _ (bx_lt hX0)).trans hX0
  have hY1 := (hb1.block _ (bx_lt hY0)).trans hY0
  have hbw1 := below_step hb0 hb1
  have hI1 := hI.up hN hbw1
  have hN1 := Nat.le_trans hN hbw1.size
  have HE1 := Lib.hid (hL.up hbw1)
  clear hX0 hY0 hb0 hb1 hI hL
  by_cases hu : 6 < u.length
  · have t1 : decide ((6 : Int) < (u.length : Int)) = true := by rw [decide_eq_true_eq]; omega
    have t1' : decide (6 < u.length) = true := by simpa using hu
    have HB := Lib.hid hbw1
    clear hX1 hY1 hI1 hbw1
    go_wp2
    go_ret
    exact ⟨rfl, HB.out⟩
  have t1 : decide ((6 : Int) < (u.length : Int)) = false := by rw [decide_eq_false_iff_not]; omega
  have t1' : decide (6 < u.length) = false := by simpa using hu
  go_upto_region 4 with (fail)
  clear t1 t1'
  go_wp2_with (with_reducible refine wpList_load_row rfl 27 (.tmp 3) rfl w.heap.size rfl 27 xs (0, 0) _ hX1 Tryz.underlying27 rfl (by rw [hsx]; exact info_raw3) ?_)
  refine (HMG.out _ hN1 hI1).mono ?_
  rintro e w2 ⟨bc, r, ks, an, at_, ak, ac, ln, cn, lt, ct, ck, lc, cc, mu, bl, en, rfl, hK, hbc, hr, hks, hb2⟩
  have hY2 := (hb2.block _ (bx_lt hY1)).trans hY1
  have hbw2 := below_step hbw1 hb2
  have HE2 := Lib.hid (HE1.out.up hb2)
  have hwg := hbw2.size
  clear hX1 hY1 hb2 hI1 HMG hbw1 hN1 HE1
  go_upto_region 5 with (fail)
  have hG3 : (w2.alloc (.cells #[.int .i64 (bc : Int), .slice an ln cn, .slice at_ lt ct, .slice ak ks.length ck, .int .i64 (r : Int), .bool mu, .slice ac lc cc, .int .i64 bl, .int .i64 en] 41)).heap[w2.heap.size]? = some (.cells #[.int .i64 (bc : Int), .slice an ln cn, .slice at_ lt ct, .slice ak ks.length ck, .int .i64 (r : Int), .bool mu, .slice ac lc cc, .int .i64 bl, .int .i64 en] 41 (0, 0)) := World.alloc_heap_new _ _
  have hb23 := below_alloc (Below.refl _ w2) (.cells #[.int .i64 (bc : Int), .slice an ln cn, .slice at_ lt ct, .slice ak ks.length ck, .int .i64 (r : Int), .bool mu, .slice ac lc cc, .int .i64 bl, .int .i64 en] 41)
  have hY3 := (hb23.block _ (bx_lt hY2)).trans hY2
  have hK3 := hK.below hb23
  have hbw3 := below_step hbw2 hb23
  have HE3 := Lib.hid (HE2.out.up hb23)
  have hN3 := hb23.size
  generalize (w2.alloc (.cells #[.int .i64 (bc : Int), .slice an ln cn, .slice at_ lt ct, .slice ak ks.length ck, .int .i64 (r : Int), .bool mu, .slice ac lc cc, .int .i64 bl, .int .i64 en] 41)) = w3 at *
  generalize w2.heap.size = gb at *
  have HIG : (Tryz.prog.info? 41).map (·.size) = some (#[.int .i64 (bc : Int), .slice an ln cn, .slice at_ lt ct, .slice ak ks.length ck, .int .i64 (r : Int), .bool mu, .slice ac lc cc, .int .i64 bl, .int .i64 en] : Array Value).size := info_game9
  clear hY2 hK hb23 hbw2 HE2
  have hR3 := range_l hY3
  go_wp2_with (first | (with_reducible refine wpList_load_row rfl 41 (.tmp 8) rfl gb rfl 41 _ (0, 0) _ hG3 Tryz.underlying41 rfl HIG ?_) | (with_reducible refine wpList_load_mid rfl 61 (.tmp 27) rfl (w.heap.size + 1) 0 rfl ys.toList _ hR3 Tryz.underlying61 rfl (by rw [Array.length_toList, hsys]; exact info_raw4) ?_))
  rw [Array.toArray_toList]
  refine (HMY.out bc r ks _ _ _ _ _ _ ak ck gb w3 hbc hr hks hN3 hK3).mono ?_
  rintro e w4 ⟨p, rfl, hpK, hpG, -, hb⟩
  have hG4 := (hb.block _ (bx_lt hG3)).trans hG3
  have hY4 := (hb.block _ (bx_lt hY3)).trans hY3
  have hK4 := hK3.below (hb.mono hN3)
  have hN4 := Nat.le_trans hN3 hb.size
  have hbw4 := below_step hbw3 hb
  have HE4 := Lib.hid (HE3.out.up hb)
  clear hb hR3 hG3 hY3 hK3 hN3 hbw3 HE3 
  go_upto_region 6 with (fail)
  have hb := below_alloc (Below.refl _ w4) (.cells #[.slice p.a p.p.cells.length p.c, .slice p.a0 p.p.h0.length p.c0, .slice p.a1 p.p.h1.length p.c1, .int .i64 p.p.rights, .int .i64 p.p.side] 32)
  have hp5 : (w4.alloc (.cells #[.slice p.a p.p.cells.length p.c, .slice p.a0 p.p.h0.length p.c0, .slice p.a1 p.p.h1.length p.c1, .int .i64 p.p.rights, .int .i64 p.p.side] 32)).heap[w4.heap.size]? = some (.cells #[.slice p.a p.p.cells.length p.c, .slice p.a0 p.p.h0.length p.c0, .slice p.a1 p.p.h1.length p.c1, .int .i64 p.p.rights, .int .i64 p.p.side] 32 (0, 0)) := World.alloc_heap_new _ _
  have hG5 := (hb.block _ (bx_lt hG4)).trans hG4
  have hY5 := (hb.block _ (bx_lt hY4)).trans hY4
  have hpK5 := (hpK.up (Nat.le_refl _) hb).mono hb.size
  have hK5 := hK4.below (hb.mono hN4)
  have hN5 := Nat.le_trans hN4 hb.size
  have hbw5 := below_step hbw4 hb
  have HE5 := Lib.hid (HE4.out.up hb)
  generalize w4.alloc (.cells #[.slice p.a p.p.cells.length p.c, .slice p.a0 p.p.h0.length p.c0, .slice p.a1 p.p.h1.length p.c1, .int .i64 p.p.rights, .int .i64 p.p.side] 32) = w5 at *
  generalize w4.heap.size = pb at *
  clear hb hG4 hY4 hK4 hN4 hbw4 HE4 hpK 
  have hR5 := range_r hY5 hsys
  go_wp2_with (first | (with_reducible refine wpList_load_row rfl 41 (.tmp 8) rfl gb rfl 41 _ (0, 0) _ hG5 Tryz.underlying41 rfl HIG ?_) | (with_reducible refine wpList_load_mid rfl 61 (.tmp 31) rfl (w.heap.size + 1) 18 rfl zs.toList _ hR5 Tryz.underlying61 rfl (by rw [Array.length_toList, hszs]; exact info_raw4) ?_))
  rw [Array.toArray_toList]
  refine (HMZ.out bc r ks _ _ _ _ _ _ ak ck gb w5 hbc hr hks hN5 hK5).mono ?_
  rintro e w6 ⟨q, rfl, hqK, hqG, -, hb⟩
  have hG6 := (hb.block _ (bx_lt hG5)).trans hG5
  have hY6 := (hb.block _ (bx_lt hY5)).trans hY5
  have hp6 := (hb.block _ (bx_lt hp5)).trans hp5
  have hpK6 := (hpK5.up (Nat.le_refl _) hb).mono hb.size
  have hK6 := hK5.below (hb.mono hN5)
  have hN6 := Nat.le_trans hN5 hb.size
  have hbw6 := below_step hbw5 hb
  have HE6 := Lib.hid (HE5.out.up hb)
  clear hb hR5 hG5 hY5 hK5 hN5 hbw5 HE5 hp5 hpK5
  go_upto_region 7 with (fail)
  have hb := below_alloc (Below.refl _ w6) (.cells #[.slice q.a q.p.cells.length q.c, .slice q.a0 q.p.h0.length q.c0, .slice q.a1 q.p.h1.length q.c1, .int .i64 q.p.rights, .int .i64 q.p.side] 32)
  have hq7 : (w6.alloc (.cells #[.slice q.a q.p.cells.length q.c, .slice q.a0 q.p.h0.length q.c0, .slice q.a1 q.p.h1.length q.c1, .int .i64 q.p.rights, .int .i64 q.p.side] 32)).heap[w6.heap.size]? = some (.cells #[.slice q.a q.p.cells.length q.c, .slice q.a0 q.p.h0.length q.c0, .slice q.a1 q.p.h1.length q.c1, .int .i64 q.p.rights, .int .i64 q.p.side] 32 (0, 0)) := World.alloc_heap_new _ _
  have hG7 := (hb.block _ (bx_lt hG6)).trans hG6
  have hY7 := (hb.block _ (bx_lt hY6)).trans hY6
  have hqK7 := (hqK.up (Nat.le_refl _) hb).mono hb.size
  have hp7 := (hb.block _ (bx_lt hp6)).trans hp6
  have hpK7 := (hpK6.up (Nat.le_refl _) hb).mono hb.size
  have hK7 := hK6.below (hb.mono hN6)
  have hN7 := Nat.le_trans hN6 hb.size
  have hbw7 := below_step hbw6 hb
  have HE7 := Lib.hid (HE6.out.up hb)
  generalize w6.alloc (.cells #[.slice q.a q.p.cells.length q.c, .slice q.a0 q.p.h0.length q.c0, .slice q.a1 q.p.h1.length q.c1, .int .i64 q.p.rights, .int .i64 q.p.side] 32) = w7 at *
  generalize w6.heap.size = qb at *
  clear hb hG6 hY6 hK6 hN6 hbw6 HE6 hqK hp6 hpK6
  have HF := Lib.hid (fun W (h : Below w7.heap.size w7 W) => (show W.heap[gb]? = some (.cells #[.int .i64 (bc : Int), .slice an ln cn, .slice at_ lt ct, .slice ak ks.length ck, .int .i64 (r : Int), .bool mu, .slice ac lc cc, .int .i64 bl, .int .i64 en] 41 (0, 0)) ∧ W.heap[pb]? = some (.cells #[.slice p.a p.p.cells.length p.c, .slice p.a0 p.p.h0.length p.c0, .slice p.a1 p.p.h1.length p.c1, .int .i64 p.p.rights, .int .i64 p.p.side] 32 (0, 0)) ∧ W.heap[qb]? = some (.cells #[.slice q.a q.p.cells.length q.c, .slice q.a0 q.p.h0.length q.c0, .slice q.a1 q.p.h1.length q.c1, .int .i64 q.p.rights, .int .i64 q.p.side] 32 (0, 0)) ∧ W.heap[w.heap.size + 1]? = some (.cells (ys ++ zs) 67 (0, 0)) from ⟨(h.block _ (bx_lt hG7)).trans hG7, (h.block _ (bx_lt hp7)).trans hp7, (h.block _ (bx_lt hq7)).trans hq7, (h.block _ (bx_lt hY7)).trans hY7⟩))
  have hlp := hpG.all.low hbc.2 hr hks.2
  have hlq := hqG.all.low hbc.2 hr hks.2
  have HP1 := Lib.hid (fun W (h : Below w7.heap.size w7 W) => print_any (.int .i64 (bc : Int)) (.slice an ln cn) (.slice at_ lt ct) (.slice ak ks.length ck) (.int .i64 (r : Int)) (.bool mu) (.slice ac lc cc) (.int .i64 bl) (.int .i64 en) p.p p.a p.a0 p.a1 p.c p.c0 p.c1 w7.heap.size W hpG.num (HE7.out.up h) h.size (hpK7.lies.up (Nat.le_refl _) h))
  have HP2 := Lib.hid (fun W (h : Below w7.heap.size w7 W) => print_any (.int .i64 (bc : Int)) (.slice an ln cn) (.slice at_ lt ct) (.slice ak ks.length ck) (.int .i64 (r : Int)) (.bool mu) (.slice ac lc cc) (.int .i64 bl) (.int .i64 en) q.p q.a q.a0 q.a1 q.c q.c0 q.c1 w7.heap.size W hqG.num (HE7.out.up h) h.size (hqK7.lies.up (Nat.le_refl _) h))
  have HPA := Lib.hid (fun s W (h : Below w7.heap.size w7 W) (hl : s.length ≤ 1000000) => parseA bc r ks (.slice an ln cn) (.slice at_ lt ct) (.bool mu) (.slice ac lc cc) (.int .i64 bl) (.int .i64 en) ak ck gb s W (by omega) (by omega) (Nat.le_trans hN7 h.size) (hK7.below (h.mono hN7)) (HE7.out.up h) hl)
  have HPT := Lib.hid (parse_text hpG.all hbc.2 hr hks.2)
  have HTB : Hid (eqB p.p q.p = decide (textP q.p = textP p.p)) := Lib.hid (by
    rw [eqB_iff, Bool.eq_iff_iff, decide_eq_true_eq, decide_eq_true_eq, cmpP_ok.eq0]
    exact ⟨fun h => by rw [h], fun h => (text_inj hlq hlp h).symm⟩)
  have hts := text_short hlp
  have HBW := Lib.hid hbw7
  unfold PosV at HP1 HP2
  have HIp : (Tryz.prog.info? 32).map (·.size) = some (#[.slice p.a p.p.cells.length p.c, .slice p.a0 p.p.h0.length p.c0, .slice p.a1 p.p.h1.length p.c1, .int .i64 p.p.rights, .int .i64 p.p.side] : Array Value).size := info_pos8
  go_wp2_with (first | (with_reducible refine wpList_load_row rfl 41 (.tmp 8) rfl gb rfl 41 _ (0, 0) _ hG7 Tryz.underlying41 rfl HIG ?_) | (with_reducible refine wpList_load_row rfl 32 (.tmp 9) rfl pb rfl 32 _ (0, 0) _ hp7 Tryz.underlying32 rfl HIp ?_))
  refine (HP1.out w7 (Below.refl _ _)).mono ?_
  rintro e w8 ⟨rfl, hb8⟩
  obtain ⟨ts, hts2⟩ : ∃ ts, textP p.p = ts := ⟨_, rfl⟩
  rw [hts2] at HPT HTB hts ⊢
  have HT2 := Lib.hid hts2
  clear hts2 HP1 hG7 hY7 hbw7
  obtain ⟨hG8, hp8, hq8, hY8⟩ := HF.out w8 hb8
  go_wp2_with (first | (with_reducible refine wpList_load_row rfl 41 (.tmp 8) rfl gb rfl 41 _ (0, 0) _ hG8 Tryz.underlying41 rfl HIG ?_))
  refine (HPA.out ts w8 hb8 (by omega)).mono ?_
  rw [HPT.out.1, HPT.out.2]
  rintro e w9 ⟨v, hvp, rfl, hvK, hb9⟩
  have hb79 := below_step hb8 hb9
  have HVP := Lib.hid hvp
  clear hvp
  clear hG8 hp8 hq8 hY8
  go_upto_region 9 with (fail)
  have hbA := below_alloc (Below.refl _ w9) (.cells #[.slice v.a v.p.cells.length v.c, .slice v.a0 v.p.h0.length v.c0, .slice v.a1 v.p.h1.length v.c1, .int .i64 v.p.rights, .int .i64 v.p.side] 32)
  have hvA : (w9.alloc (.cells #[.slice v.a v.p.cells.length v.c, .slice v.a0 v.p.h0.length v.c0, .slice v.a1 v.p.h1.length v.c1, .int .i64 v.p.rights, .int .i64 v.p.side] 32)).heap[w9.heap.size]? = some (.cells #[.slice v.a v.p.cells.length v.c, .slice v.a0 v.p.h0.length v.c0, .slice v.a1 v.p.h1.length v.c1, .int .i64 v.p.rights, .int .i64 v.p.side] 32 (0, 0)) := World.alloc_heap_new _ _
  have hb7A := below_step hb79 hbA
  have hvKA := (hvK.up (Nat.le_refl _) hbA).mono hbA.size
  generalize w9.alloc (.cells #[.slice v.a v.p.cells.length v.c, .slice v.a0 v.p.h0.length v.c0, .slice v.a1 v.p.h1.length v.c1, .int .i64 v.p.rights, .int .i64 v.p.side] 32) = wA at *
  generalize w9.heap.size = vb at *
  obtain ⟨hGA, hpA, hqA, hYA⟩ := HF.out wA hb7A
  have hC : RC3 wA gb (.int .i64 (bc : Int)) (.slice an ln cn) (.slice at_ lt ct) (.slice ak ks.length ck) (.int .i64 (r : Int)) (.bool mu) (.slice ac lc cc) (.int .i64 bl) (.int .i64 en) pb qb vb p q v wA := RC3.of hGA hpA hqA hvA
  have hsA := hb7A.size
  have HPKA := Lib.hid ((hpK7.up (Nat.le_refl _) hb7A).mono hsA)
  have HQKA := Lib.hid ((hqK7.up (Nat.le_refl _) hb7A).mono hsA)
  have HVKA := Lib.hid hvKA
  have HE1 := Lib.hid (fun W (h : Below wA.heap.size wA W) => equal_any v.p p.p v.a v.a0 v.a1 p.a p.a0 p.a1 v.c v.c0 v.c1 p.c p.c0 p.c1 wA.heap.size W HVKA.out.fit h.size (HVKA.out.lies.up (Nat.le_refl _) h) (HPKA.out.lies.up (Nat.le_refl _) h))
  have HE2 := Lib.hid (fun W (h : Below wA.heap.size wA W) => equal_any p.p q.p p.a p.a0 p.a1 q.a q.a0 q.a1 p.c p.c0 p.c1 q.c q.c0 q.c1 wA.heap.size W HPKA.out.fit h.size (HPKA.out.lies.up (Nat.le_refl _) h) (HQKA.out.lies.up (Nat.le_refl _) h))
  have HP2A := Lib.hid (fun W (h : Below wA.heap.size wA W) => HP2.out W (below_step hb7A h))
  rw [show eqB v.p p.p = true by rw [eqB_iff, decide_eq_true_eq, cmpP_ok.eq0]; exact HVP.out] at HE1
  unfold PosV at HE1 HE2
  obtain hTB := HTB.out
  clear HP2 HTB hvK hvKA hbA hvA hGA hpA hqA hYA
  generalize textP q.p = tq at *
  generalize eqB p.p q.p = eb at *
  have t1 : (tq == ts) = eb := by rw [hTB, Bool.eq_iff_iff, beq_iff_eq, decide_eq_true_eq]
  have t2 : decide (tq = ts) = eb := hTB.symm
  have t3 : (eb != eb) = false := by simp
  clear hTB
  refine wp_region_quiet (C := RC3 wA gb (.int .i64 (bc : Int)) (.slice an ln cn) (.slice at_ lt ct) (.slice ak ks.length ck) (.int .i64 (r : Int)) (.bool mu) (.slice ac lc cc) (.int .i64 bl) (.int .i64 en) pb qb vb p q v) (by as_aux_lemma => kernel_rfl) (by as_aux_lemma => kernel_rfl) (hC.up (Below.refl _ _).drew) ?_
  dsimp only
  iterate 5
    refine wpQuiet_val (v := ?_) (by rfl) ?_ ?_
    rotate_left
    · ((intro W hW; (try cases hW); go_simp); try with_reducible rfl)
    (try simp only [Act.put, List.setIfInBounds_toArray, List.set_cons_zero, List.set_cons_succ])
  refine wpQuiet_val (v := .bool true) (by rfl) (fun W hW => ?_) ?_
  · go_simp
    exact (HE1.out W hW.b).mono fun e w' ⟨he, hb⟩ => ⟨he, hW.up hb⟩
  (try simp only [Act.put, List.setIfInBounds_toArray, List.set_cons_zero, List.set_cons_succ])
  iterate 5
    refine wpQuiet_val (v := ?_) (by rfl) ?_ ?_
    rotate_left
    · ((intro W hW; (try cases hW); go_simp); try with_reducible rfl)
    (try simp only [Act.put, List.setIfInBounds_toArray, List.set_cons_zero, List.set_cons_succ])
  refine wpQuiet_val (v := .string ⟨tq.toArray⟩) (by rfl) (fun W hW => ?_) ?_
  · go_simp
    exact (HP2A.out W hW.b).mono fun e w' ⟨he, hb⟩ => ⟨he, hW.up hb⟩
  (try simp only [Act.put, List.setIfInBounds_toArray, List.set_cons_zero, List.set_cons_succ])
  iterate 4
    refine wpQuiet_val (v := ?_) (by rfl) ?_ ?_
    rotate_left
    · ((intro W hW; (try cases hW); go_simp); try with_reducible rfl)
    (try simp only [Act.put, List.setIfInBounds_toArray, List.set_cons_zero, List.set_cons_succ])
  refine wpQuiet_val (v := .bool eb) (by rfl) (fun W hW => ?_) ?_
  · go_simp
    exact (HE2.out W hW.b).mono fun e w' ⟨he, hb⟩ => ⟨he, hW.up hb⟩
  (try simp only [Act.put, List.setIfInBounds_toArray, List.set_cons_zero, List.set_cons_succ])
  iterate 2
    refine wpQuiet_val (v := ?_) (by rfl) ?_ ?_
    rotate_left
    · ((intro W hW; (try cases hW); go_simp); try with_reducible rfl)
    (try simp only [Act.put, List.setIfInBounds_toArray, List.set_cons_zero, List.set_cons_succ])
  refine wpQuiet_nil (fun wB hW => ?_)
  have hb7B := below_step hb7A hW.b
  clear hW hC HE1 HE2 HP2A HPKA HQKA HVKA t1 t2 t3
  obtain ⟨hGB, hpB, hqB, hYB⟩ := HF.out wB hb7B
  have hRB := range_r hYB hsys
  have y0 : wB.cell? ⟨w.heap.size + 1, 18, none⟩ = some (.int .u8 (k0 : Int)) := hRB 0 _ (by rw [Array.getElem?_toList]; exact hz0)
  have y1 : wB.cell? ⟨w.heap.size + 1, 19, none⟩ = some (.int .u8 (k1 : Int)) := hRB 1 _ (by rw [Array.getElem?_toList]; exact hz1)
  have w1 : IntKind.i64.wrap (k0 : Int) = (k0 : Int) := IntWalk.i64_in _ (by omega)
  have w2 : IntKind.i64.wrap ((ts.length : Int) + 1) = (ts.length : Int) + 1 := IntWalk.i64_in _ (by omega)
  have n1 : ((ts.length : Int) + 1 == 0) = false := by rw [beq_eq_false_iff_ne]; omega
  have n2 : ¬ ((ts.length : Int) + 1 = 0) := by omega
  have e1 : (k0 : Int).tmod ((ts.length : Int) + 1) = ((k0 % (ts.length + 1) : Nat) : Int) := by
    rw [Int.tmod_eq_emod_of_nonneg (by omega), Int.natCast_emod, Int.natCast_add]; rfl
  have hat : k0 % (ts.length + 1) ≤ ts.length := by have := Nat.mod_lt k0 (show 0 < ts.length + 1 by omega); omega
  have e2 : (k1 : Int).tmod 5 = ((k1 % 5 : Nat) : Int) := by
    rw [Int.tmod_eq_emod_of_nonneg (by omega), Int.natCast_emod]; rfl
  have w4 : IntKind.u8.wrap ((k1 % 5 : Nat) : Int) = ((k1 % 5 : Nat) : Int) := u8_id _ (by omega)
  have w5 : IntKind.i64.wrap ((k1 % 5 : Nat) : Int) = ((k1 % 5 : Nat) : Int) := IntWalk.i64_in _ (by omega)
  have hk5 : k1 % 5 ≤ 4 := by omega
  generalize k0 % (ts.length + 1) = ia at *
  have w3 : IntKind.i64.wrap (ia : Int) = (ia : Int) := IntWalk.i64_in _ (by omega)
  generalize k1 % 5 = ib at *
  have w6 : IntKind.i64.wrap ((ia : Int) + (ib : Int)) = (ia : Int) + (ib : Int) := IntWalk.i64_in _ (by omega)
  clear hRB hGB hpB hqB hYB
  go_wp2_with fail
  obtain ⟨ie, hie, he5⟩ : ∃ ie : Nat, ie ≤ ts.length ∧ min ((ia : Int) + (ib : Int)) (ts.length : Int) = (ie : Int) := ⟨min (ia + ib) ts.length, by omega, by omega⟩
  rw [he5]
  clear he5 w1 w2 w3 w4 w5 w6 n1 n2 e1 e2 y0 y1
  have d1 : (0 : Int) ≤ (ia : Int) := by omega
  have d2 : (ia : Int) ≤ (ts.length : Int) := by omega
  have d3 : (0 : Int) ≤ (ie : Int) := by omega
  have d4 : (ie : Int) ≤ (ts.length : Int) := by omega
  go_quiet (fail)
  obtain ⟨od, hod, hol⟩ : ∃ od : List UInt8, (⟨ts.toArray⟩ : ByteArray).extract 0 ia ++ ⟨u.toArray⟩ ++ (⟨ts.toArray⟩ : ByteArray).extract ie ts.length = ⟨od.toArray⟩ ∧ od.length ≤ 1000000 :=
    ⟨((⟨ts.toArray⟩ : ByteArray).extract 0 ia ++ ⟨u.toArray⟩ ++ (⟨ts.toArray⟩ : ByteArray).extract ie ts.length).data.toList, by rw [Array.toArray_toList], by
      have h1 : ((⟨ts.toArray⟩ : ByteArray).extract 0 ia ++ ⟨u.toArray⟩ ++ (⟨ts.toArray⟩ : ByteArray).extract ie ts.length).size ≤ 1000000 := by
        rw [ByteArray.size_append, ByteArray.size_append, ByteArray.size_extract, ByteArray.size_extract]
        have h2 : (⟨u.toArray⟩ : ByteArray).size = u.length := by simp [ByteArray.size]
        have h3 : (⟨ts.toArray⟩ : ByteArray).size = ts.length := by simp [ByteArray.size]
        omega
      rw [Array.length_toList]
      exact h1⟩
  rw [hod]
  clear hod d1 d2 d3 d4
  generalize hwC : wB.drewN _ = wC
  have hb7C : Below w7.heap.size w7 wC := by rw [← hwC]; exact below_drewN_ hb7B _
  clear hwC
  obtain ⟨hGC, -, -, -⟩ := HF.out wC hb7C
  go_wp2_with (first | (with_reducible refine wpList_load_row rfl 41 (.tmp 8) rfl gb rfl 41 _ (0, 0) _ hGC Tryz.underlying41 rfl HIG ?_))
  refine (HPA.out od wC hb7C hol).mono ?_
  have HQ : Hid (parseOk bc r ks (readP ts) ts = true) := by
    have := HPT.out.2
    unfold parsedE at this
    refine Lib.hid ?_
    cases h : parseOk bc r ks (readP ts) ts with
    | true => rfl
    | false => rw [h] at this; simp at this
  rintro e wD ⟨v2, hv2, rfl, hv2K, hbD⟩
  have hb7D := below_step hb7C hbD
  have HV2 := Lib.hid hv2
  clear hv2 hGC
  unfold parsedE
  cases hok : parseOk bc r ks (readP od) od with
  | false =>
    have HOK := Lib.hid hok
    clear hok
    rw [if_neg (by simp)]
    have hne : ¬ od = ts := fun h => by have h1 := HOK.out; rw [h, HQ.out] at h1; cases h1
    have s1 : (od != ts) = true := by rw [bne_iff_ne]; exact hne
    have s2 : decide (od = ts) = false := decide_eq_false hne
    have s3 : (od == ts) = false := by rw [beq_eq_false_iff_ne]; exact hne
    have hz : v2.p = posZero := by rw [HV2.out]; unfold parsedP; rw [HOK.out]; rfl
    have HZ := Lib.hid hz
    clear hz hne
    go_upto_region 15 with (fail)
    have hbE := below_alloc (Below.refl _ wD) (.cells #[.slice v2.a v2.p.cells.length v2.c, .slice v2.a0 v2.p.h0.length v2.c0, .slice v2.a1 v2.p.h1.length v2.c1, .int .i64 v2.p.rights, .int .i64 v2.p.side] 32)
    have hvE : (wD.alloc (.cells #[.slice v2.a v2.p.cells.length v2.c, .slice v2.a0 v2.p.h0.length v2.c0, .slice v2.a1 v2.p.h1.length v2.c1, .int .i64 v2.p.rights, .int .i64 v2.p.side] 32)).heap[wD.heap.size]? = some (.cells #[.slice v2.a v2.p.cells.length v2.c, .slice v2.a0 v2.p.h0.length v2.c0, .slice v2.a1 v2.p.h1.length v2.c1, .int .i64 v2.p.rights, .int .i64 v2.p.side] 32 (0, 0)) := World.alloc_heap_new _ _
    have hb7E := below_step hb7D hbE
    have hvKE := (hv2K.up (Nat.le_refl _) hbE).mono hbE.size
    generalize wD.alloc (.cells #[.slice v2.a v2.p.cells.length v2.c, .slice v2.a0 v2.p.h0.length v2.c0, .slice v2.a1 v2.p.h1.length v2.c1, .int .i64 v2.p.rights, .int .i64 v2.p.side] 32) = wE at *
    generalize wD.heap.size = db at *
    have HEQ := Lib.hid (equal_any v2.p posZero v2.a v2.a0 v2.a1 none none none v2.c v2.c0 v2.c1 0 0 0 wE.heap.size wE hvKE.fit (Nat.le_refl _) hvKE.lies ⟨.inl rfl, .inl rfl, .inl rfl⟩)
    rw [show eqB v2.p posZero = true by rw [eqB_iff, decide_eq_true_eq, cmpP_ok.eq0]; exact HZ.out] at HEQ
    unfold PosV at HEQ
    have HB := Lib.hid (below_step HBW.out hb7E)
    have q0 := bx_cell hvE 0 rfl
    have q1 := bx_cell hvE 1 rfl
    have q2 := bx_cell hvE 2 rfl
    have q3 := bx_cell hvE 3 rfl
    have q4 := bx_cell hvE 4 rfl
    clear hbE hvE hb7E hvKE hv2K hb7D hbD hb7C hb7B hb7A
    go_wp2_with fail
    refine HEQ.out.mono ?_
    rintro e wF ⟨rfl, hbF⟩
    have HB2 := Lib.hid (below_step HB.out hbF)
    clear hbF q0 q1 q2 q3 q4
    go_wp2
    go_ret
    exact ⟨rfl, HB2.out⟩
  | true =>
    have HOK := Lib.hid hok
    clear hok
    rw [if_pos rfl]
    have hpok := HOK.out
    unfold parseOk at hpok
    rw [Bool.and_eq_true, decide_eq_true_eq] at hpok
    have hz : v2.p = readP od := by rw [HV2.out]; unfold parsedP; rw [HOK.out]; rfl
    have HZ := Lib.hid (show posB bc r ks v2.p = true ∧ textP v2.p = od ∧ PosNum v2.p by rw [hz]; exact ⟨hpok.1, hpok.2, readP_num od⟩)
    clear hz hpok
    go_upto_region 17 with (fail)
    have hbE := below_alloc (Below.refl _ wD) (.cells #[.slice v2.a v2.p.cells.length v2.c, .slice v2.a0 v2.p.h0.length v2.c0, .slice v2.a1 v2.p.h1.length v2.c1, .int .i64 v2.p.rights, .int .i64 v2.p.side] 32)
    have hvE : (wD.alloc (.cells #[.slice v2.a v2.p.cells.length v2.c, .slice v2.a0 v2.p.h0.length v2.c0, .slice v2.a1 v2.p.h1.length v2.c1, .int .i64 v2.p.rights, .int .i64 v2.p.side] 32)).heap[wD.heap.size]? = some (.cells #[.slice v2.a v2.p.cells.length v2.c, .slice v2.a0 v2.p.h0.length v2.c0, .slice v2.a1 v2.p.h1.length v2.c1, .int .i64 v2.p.rights, .int .i64 v2.p.side] 32 (0, 0)) := World.alloc_heap_new _ _
    have hb7E := below_step hb7D hbE
    have hvKE := (hv2K.up (Nat.le_refl _) hbE).mono hbE.size
    generalize wD.alloc (.cells #[.slice v2.a v2.p.cells.length v2.c, .slice v2.a0 v2.p.h0.length v2.c0, .slice v2.a1 v2.p.h1.length v2.c1, .int .i64 v2.p.rights, .int .i64 v2.p.side] 32) = wE at *
    generalize wD.heap.size = db at *
    have HVA := Lib.hid (rvalid_any bc r ks (.slice an ln cn) (.slice at_ lt ct) (.bool mu) (.slice ac lc cc) (.int .i64 bl) (.int .i64 en) v2.p ak v2.a v2.a0 v2.a1 ck v2.c v2.c0 v2.c1 wE.heap.size wE hr hks.2 hvKE.fit (Nat.le_refl _) hvKE.lies (hK7.to hb7E hN7 (Nat.le_trans hN7 hb7E.size)))
    rw [HZ.out.1] at HVA
    have HPR := Lib.hid (fun W (h : Below wE.heap.size wE W) => print_any (.int .i64 (bc : Int)) (.slice an ln cn) (.slice at_ lt ct) (.slice ak ks.length ck) (.int .i64 (r : Int)) (.bool mu) (.slice ac lc cc) (.int .i64 bl) (.int .i64 en) v2.p v2.a v2.a0 v2.a1 v2.c v2.c0 v2.c1 wE.heap.size W HZ.out.2.2 (HE7.out.up (below_step hb7E h)) h.size (hvKE.lies.up (Nat.le_refl _) h))
    rw [HZ.out.2.1] at HPR
    unfold PosV at HVA HPR
    have HB := Lib.hid (below_step HBW.out hb7E)
    have HVE := Lib.hid hvE
    have HFE := Lib.hid (fun W (h : Below wE.heap.size wE W) => HF.out W (below_step hb7E h))
    obtain ⟨hGE, -, -, -⟩ := HFE.out wE (Below.refl _ _)
    have q0 := bx_cell hvE 0 rfl
    have q1 := bx_cell hvE 1 rfl
    have q2 := bx_cell hvE 2 rfl
    have q3 := bx_cell hvE 3 rfl
    have q4 := bx_cell hvE 4 rfl
    have g0 := bx_cell hGE 0 rfl
    have g1 := bx_cell hGE 1 rfl
    have g2 := bx_cell hGE 2 rfl
    have g3 := bx_cell hGE 3 rfl
    have g4 := bx_cell hGE 4 rfl
    have g5 := bx_cell hGE 5 rfl
    have g6 := bx_cell hGE 6 rfl
    have g7 := bx_cell hGE 7 rfl
    have g8 := bx_cell hGE 8 rfl
    clear hbE hvKE hv2K hb7D hbD hb7C hb7B hb7A hvE hGE hb7E
    go_wp2_with fail
    refine HVA.out.mono ?_
    rintro e wF ⟨rfl, hbF⟩
    obtain ⟨hGF, -, -, -⟩ := HFE.out wF hbF
    have hvF := (hbF.block _ (bx_lt HVE.out)).trans HVE.out
    clear q0 q1 q2 q3 q4 g0 g1 g2 g3 g4 g5 g6 g7 g8
    have q0 := bx_cell hvF 0 rfl
    have q1 := bx_cell hvF 1 rfl
    have q2 := bx_cell hvF 2 rfl
    have q3 := bx_cell hvF 3 rfl
    have q4 := bx_cell hvF 4 rfl
    have g0 := bx_cell hGF 0 rfl
    have g1 := bx_cell hGF 1 rfl
    have g2 := bx_cell hGF 2 rfl
    have g3 := bx_cell hGF 3 rfl
    have g4 := bx_cell hGF 4 rfl
    have g5 := bx_cell hGF 5 rfl
    have g6 := bx_cell hGF 6 rfl
    have g7 := bx_cell hGF 7 rfl
    have g8 := bx_cell hGF 8 rfl
    have HPF := Lib.hid (HPR.out wF hbF)
    have HBF := Lib.hid (below_step HB.out hbF)
    clear hvF hGF hbF
    go_wp2_with fail
    refine HPF.out.mono ?_
    rintro e wH ⟨rfl, hbH⟩
    have HB2 := Lib.hid (below_step HBF.out hbH)
    clear hbH q0 q1 q2 q3 q4 g0 g1 g2 g3 g4 g5 g6 g7 g8
    have s1 : (od == od) = true := by simp
    go_wp2
    go_ret
    exact ⟨by first | rfl | simp, HB2.out⟩
end Go.Proofs.YtphhkfelpckilaaGreatDoor
