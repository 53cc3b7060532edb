/-
  Of the reference: At.
-/
import Derived.Test.YtepbmgbomdekaaaXRAtA
import Derived.Test.YtepbmgbomdekaaaXAtO
namespace Go.Proofs.Ytepbmgbomdekaaa
open Go Go.RowKit

set_option maxRecDepth 100000 in
set_option maxHeartbeats 8000000 in
theorem rat_own (bc r : Nat) (ks : List Bool) (vn vt vm vc vb ve : Value) (p : PosS) (i : Int) (ak b b0 b1 : Option Addr) (ck c c0 c1 N : Nat) (w : World) (hbc : bc ≤ 64) (hb1 : 1 ≤ bc) (hr : r ≤ 2) (hk1 : 1 ≤ ks.length) (hks : ks.length ≤ 3) (hp : PosFit p) (hN : N ≤ w.heap.size) (hP : PosIn N w b b0 b1 p) (hK : Keeps N w ak ks) :
    Calls Try.prog 19 #[.agg #[.int .i64 (bc : Int), vn, vt, .slice ak ks.length ck, .int .i64 (r : Int), vm, vc, vb, ve], PosV b b0 b1 c c0 c1 p, .int .i64 i] w fun e w' => ∃ a a0 a1 d d0 d1, e = .returned (.tuple #[PosV a a0 a1 d d0 d1 (atV bc r ks p i).1, .int .i64 (((atV bc r ks p i).2 : Nat) : Int)]) ∧ POwn w.heap.size w' a a0 a1 d d0 d1 (atV bc r ks p i).1 ∧ Below w.heap.size w w' := by
  obtain ⟨V, hV⟩ : ∃ V, atV bc r ks p i = V := ⟨_, rfl⟩
  rw [hV]
  unfold atV at hV
  have HV := Lib.hid hV
  clear hV
  go_enter Try.func19, Try.ntmps19
  go_upto_region 1 with (fail)
  rw [show w.heap.size + 1 + 1 = w.heap.size + 2 from rfl]
  unfold PosV
  obtain ⟨hb0, hG, hQ, hR, hS0⟩ := three_boxes w #[.int .i64 (bc : Int), vn, vt, .slice ak ks.length ck, .int .i64 (r : Int), vm, vc, vb, ve] #[.slice b p.cells.length c, .slice b0 p.h0.length c0, .slice b1 p.h1.length c1, .int .i64 p.rights, .int .i64 p.side] #[.slice none 0 0, .slice none 0 0, .slice none 0 0, .int .i64 0, .int .i64 0] 35 39 27
  generalize ((w.alloc (.cells #[.int .i64 (bc : Int), vn, vt, .slice ak ks.length ck, .int .i64 (r : Int), vm, vc, vb, ve] 35)).alloc (.cells #[.slice b p.cells.length c, .slice b0 p.h0.length c0, .slice b1 p.h1.length c1, .int .i64 p.rights, .int .i64 p.side] 39)).alloc (.cells #[.slice none 0 0, .slice none 0 0, .slice none 0 0, .int .i64 0, .int .i64 0] 27) = w0 at *
  have HS := Lib.hid (rsize_any bc r ks vn vt vm vc vb ve p ak b b0 b1 ck c c0 c1 N w0 hbc hr hks hp (Nat.le_trans hN hb0.size) (hP.up hN hb0) (hK.below (hb0.mono hN)))
  unfold PosV at HS
  have HP0 := Lib.hid (hP.up hN hb0)
  have hN0 : N ≤ w0.heap.size := Nat.le_trans hN hb0.size
  have HS0 := Lib.hid hS0
  obtain ⟨x, hx⟩ : ∃ x, x = w.heap.size := ⟨_, rfl⟩
  have HX := Lib.hid hx
  simp only [← hx] at hb0 hG hQ hR hS0 hN HS0 ⊢
  clear hP hK hS0 hx
  have hzero : Ints 0 w none ([] : List Int) := .inl rfl
  by_cases he : (sizeV bc r ks p).2 = 0
  · obtain ⟨hm, hw, hs1⟩ := size_two he
    rw [if_pos he, hs1] at HV
    rw [he, hs1] at HS
    by_cases hi : 0 ≤ i ∧ i < ((ways (nats p.cells) : Nat) : Int)
    · rw [if_pos hi] at HV
      obtain ⟨j, rfl⟩ := Int.eq_ofNat_of_zero_le hi.1
      have hj : j < ways (nats p.cells) := by omega
      obtain ⟨l, el, hsum, hll⟩ := mat_some hm
      obtain ⟨hh0, hh1⟩ := hands_mat hm
      have HP1 := Lib.hid (show Ints N w0 b (zs l) by rw [← el]; exact HP0.out.cells)
      have HL := Lib.hid (show p.cells.length = l.length by rw [el, zs_len])
      rw [HL.out] at HS hQ
      rw [el, nats_zs] at HV HS hj hw
      rw [Int.toNat_natCast] at HV
      have HSUM := Lib.hid hsum
      have HLL := Lib.hid hll
      have HH0 := Lib.hid hh0
      have HH1 := Lib.hid hh1
      have hl13 : l.length ≤ 13 := by omega
      have t1 : decide ((j : Int) < 0) = false := by simp
      have t2 : decide (((ways l : Nat) : Int) ≤ (j : Int)) = false := by simp; omega
      clear hm el hsum hll hh0 hh1 hi hs1 he
      go_upto_region 6 with (first | (refine wpList_load_row rfl 35 (.tmp 3) rfl x rfl 35 _ (0, 0) _ hG Try.underlying35 rfl info_game ?_) | (refine wpList_load_row rfl 39 (.tmp 4) rfl (x + 1) rfl 39 _ (0, 0) _ hQ Try.underlying39 rfl info_mat ?_) | (go_at_call 15; refine HS.out.mono ?_; rintro e w1 ⟨rfl, hb1⟩; have hR1 := hp_up hR hb1))
      have hG1 := hp_up hG hb1
      have hQ1 := hp_up hQ hb1
      have hN1 : N ≤ w1.heap.size := by have := hb1.size; omega
      have HB1 := Lib.hid (show Below w.heap.size w w1 by have e := HX.out; rw [← e]; exact hb0.trans (hb1.mono (by have := HS0.out; omega)))
      have hPd := (HP0.out.up hN0 hb1)
      have HI := (HP1.out.up hN0 hb1)
      have HH0d := Lib.hid hPd.h0
      have HH1d := Lib.hid hPd.h1
      clear hb0 hG hR hQ hPd hN0 HP0 HP1 HS hb1
      obtain ⟨bb, off, rfl, hbN, hc⟩ := ints_at HI (by rw [zs_len]; have := HLL.out; omega)
      have q0 : w1.cell? ⟨x + 1, 0, none⟩ = some (.slice (some ⟨bb, off, none⟩) l.length c) := bx_cell hQ1 0 rfl
      have lq := bx_lt hQ1
      have hbE : Below w1.heap.size w1 (w1.alloc (.cells #[] 3)) := below_alloc (Below.refl _ _) _
      rw [zs_len] at hc
      go_upto_region 7 with (refine wpList_append_all rfl _ _ rfl w1.heap.size (.slice (some ⟨w1.heap.size, 0, none⟩) 0 0) [] rfl (own_empty w1) (by simp) hbE.size bb off c (zs l) (by rw [zs_len]; rfl) (by rw [zs_len]; omega) (fun j hj => (hbE.cell (p := ⟨bb, off + j, none⟩) (show bb < w1.heap.size by omega)).trans (hc j (by rw [zs_len] at hj; exact hj))) ?_; intro v1 w2 ho1 hg1 _; rw [List.nil_append] at ho1; obtain ⟨M, d, rfl, hgl, hgr⟩ := own_form ho1 (by rw [zs_len]; have := HLL.out; omega); have hb2 : Below w1.heap.size w1 w2 := push_below hbE (Below.refl _ _) hbE.size (own_empty w1) hg1; rw [zs_len] at ho1; rw [zs_len]; clear hg1)
      have hG2 := hp_up hG1 hb2
      have hQ2 := hp_up hQ1 hb2
      have hR2 := hp_up hR1 hb2
      have hN2 : N ≤ w2.heap.size := by have := hb2.size; omega
      have HB2 := Lib.hid (below_step HB1.out hb2)
      have HC := Lib.hid (rCopied_nil ⟨[], p.h0, p.h1, p.rights, p.side⟩ b0 b1 c0 c1 N w2 rfl (by have := HH0.out; dsimp only; omega) (by have := HH0.out; dsimp only; omega) (by have := HH1.out; dsimp only; omega) (by have := HH1.out; dsimp only; omega) hN2 ⟨.inl rfl, HH0d.out.up hN1 hb2, HH1d.out.up hN1 hb2⟩)
      unfold PosV at HC
      dsimp only at HC
      rw [show ([] : List Int).length = 0 from rfl] at HC
      have q1 : w2.cell? ⟨x + 1, 1, none⟩ = some (.slice b0 p.h0.length c0) := bx_cell hQ2 1 rfl
      have q2 : w2.cell? ⟨x + 1, 2, none⟩ = some (.slice b1 p.h1.length c1) := bx_cell hQ2 2 rfl
      have q3 : w2.cell? ⟨x + 1, 3, none⟩ = some (.int .i64 p.rights) := bx_cell hQ2 3 rfl
      have q4 : w2.cell? ⟨x + 1, 4, none⟩ = some (.int .i64 p.side) := bx_cell hQ2 4 rfl
      have lq2 := bx_lt hQ2
      have HG1 := Lib.hid hG1
      have HR1 := Lib.hid hR1
      have HBW1 := Lib.hid HB1.out
      clear q0 lq hG1 hQ1 hR1 HI hc hbE HH0d HH1d HB1
      go_upto_region 8 with (go_at_call 23; refine HC.out.mono ?_; rintro e w3 ⟨g, g0, g1, d2, d0, d1, rfl, hO3, hap, hb3⟩)
      have hb4 : Below w3.heap.size w3 (w3.alloc (.cells #[.slice (some ⟨g, 0, none⟩) 0 d2, .slice (some ⟨g0, 0, none⟩) p.h0.length d0, .slice (some ⟨g1, 0, none⟩) p.h1.length d1, .int .i64 p.rights, .int .i64 p.side] 27)) := below_alloc (Below.refl _ _) _
      have hX4 := World.alloc_heap_new w3 (.cells #[.slice (some ⟨g, 0, none⟩) 0 d2, .slice (some ⟨g0, 0, none⟩) p.h0.length d0, .slice (some ⟨g1, 0, none⟩) p.h1.length d1, .int .i64 p.rights, .int .i64 p.side] 27)
      obtain ⟨ob, hob⟩ : ∃ ob, ob = w3.heap.size := ⟨_, rfl⟩
      have hgg := World.ownsRow.lt hO3.cells g rfl
      have hgg0 := World.ownsRow.lt hO3.h0 g0 rfl
      have hgg1 := World.ownsRow.lt hO3.h1 g1 rfl
      have hs2 := hb2.size
      have hs3 := hb3.size
      have hm4 := (ho1.upx hb3).upx hb4
      have hc4 := hO3.cells.upx hb4
      have ho04 := hO3.h0.upx hb4
      have ho14 := hO3.h1.upx hb4
      have hB4 : Below w1.heap.size w1 (w3.alloc (.cells #[.slice (some ⟨g, 0, none⟩) 0 d2, .slice (some ⟨g0, 0, none⟩) p.h0.length d0, .slice (some ⟨g1, 0, none⟩) p.h1.length d1, .int .i64 p.rights, .int .i64 p.side] 27)) := hb2.trans ((hb3.mono hs2).trans (hb4.mono (by omega)))
      generalize w3.alloc (.cells #[.slice (some ⟨g, 0, none⟩) 0 d2, .slice (some ⟨g0, 0, none⟩) p.h0.length d0, .slice (some ⟨g1, 0, none⟩) p.h1.length d1, .int .i64 p.rights, .int .i64 p.side] 27) = w4 at *
      simp only [← hob] at hX4 ⊢
      have hRA : RA w1.heap.size M l.length d ob g0 g1 d0 d1 p.h0 p.h1 p.rights p.side (.slice (some ⟨g, 0, none⟩) 0 d2) l [] w4 :=
        ⟨hm4, hX4, OwnInts.mono hc4 hs2, OwnInts.mono ho04 hs2, OwnInts.mono ho14 hs2, fun e => by have e1 : M = g := by injection e
                                                                                                   omega, fun e => by have e1 : g0 = g := by injection e
                                                                                                                      exact hap.1 e1.symm, fun e => by have e1 : g1 = g := by injection e
                                                                                                                                                       exact hap.2.1 e1.symm, by omega, by omega, by omega⟩
      have HRA := Lib.hid hRA
      have HB4 := Lib.hid hB4
      have HSB := Lib.hid HSUM.out
      have HJW := Lib.hid hj
      have HWL := Lib.hid hw
      clear HC q1 q2 q3 q4 lq2 hG2 hQ2 hR2 hO3 hap hb3 hb4 hX4 hgg hgg0 hgg1 hs2 hs3 hm4 hc4 ho04 ho14 hB4 hRA hb2 ho1 hob hj hw HB2 hN2
      have lx1 : x < w1.heap.size := bx_lt HG1.out
      have lx2 : x + 2 < w1.heap.size := bx_lt HR1.out
      go_wp2_with fail
      go_loopw [2, 12] (fun v ix wr => ∃ (k i : Nat) (lk acc : List Nat) (va : Value), k ≤ bc ∧ ix = .int .i64 (k : Int) ∧ v = .int .i64 (i : Int) ∧ Hid (acc.length = k) ∧ Hid (acc ++ atS lk (bc - k) i = atS l bc j) ∧ Hid (lk.sum = bc - k) ∧ Hid (lk.length = l.length) ∧ Hid (i < ways lk) ∧ Hid (ways lk ≤ 1099511627776) ∧ Hid (RA w1.heap.size M l.length d ob g0 g1 d0 d1 p.h0 p.h1 p.rights p.side va lk acc wr) ∧ Hid (Below w1.heap.size w1 wr)) (fun _ ix _ => bc - (intOf ix).toNat)
      case atStart => exact ⟨0, j, l, [], _, Nat.zero_le _, rfl, rfl, Lib.hid rfl, Lib.hid rfl, HSB, Lib.hid rfl, HJW, HWL, HRA, HB4⟩
      case round =>
        obtain ⟨k, i, lk, acc, va, hk, rfl, rfl, HAC, HAT, HSK, HLK, HIW, HWK, HRk, HBk⟩ := hrel
        have hGr := hp_up HG1.out HBk.out
        have g0c : wr.cell? ⟨x, 0, none⟩ = some (.int .i64 (bc : Int)) := bx_cell hGr 0 rfl
        have lgr := bx_lt hGr
        by_cases hlt : k < bc
        · obtain ⟨n, hn⟩ : ∃ n, bc - k = n + 1 := ⟨bc - k - 1, by omega⟩
          have hAT := HAT.out
          have hSK := HSK.out
          rw [hn] at hAT hSK
          have hn2 : bc - (k + 1) = n := by omega
          have hiw := HIW.out
          rw [← below_all hSK] at hiw
          obtain ⟨_, hc1, hc2, hc3⟩ := first_lt lk.length 0 (Nat.zero_le _) (by rw [Nat.zero_add]; exact hiw)
          simp only [atS] at hAT
          generalize firstS lk i lk.length 0 = c9 at *
          have ht9 : below lk (c9 + 1) = below lk c9 + term lk c9 := rfl
          have hpos : 0 < lk.getD c9 0 := by
            rcases Nat.eq_zero_or_pos (lk.getD c9 0) with h0 | h0
            · have : term lk c9 = 0 := by unfold term; rw [if_pos h0]
              omega
            · exact h0
          have hcl : c9 < lk.length := by omega
          have HVB := Lib.hid (show ∀ y, lk.getD y 0 ≤ 64 from fun y => by
            have h9 := getD_le_sum lk y
            omega)
          have HNX := Lib.hid (And.intro hAT (And.intro (sum_dec hpos) (And.intro (term_of hpos) hSK)))
          have HC2 := Lib.hid hc2
          have HC3 := Lib.hid hc3
          have HCL := Lib.hid (show c9 < l.length by rw [← HLK.out]; exact hcl)
          have HPS := Lib.hid hpos
          have hbig : i ≤ 1099511627776 := by have := HIW.out; have := HWK.out; omega
          have t3 : decide ((k : Int) < (bc : Int)) = true := by simp; omega
          have HSM := Lib.hid hSK
          clear hAT hSK hiw hc1 hc2 hc3 ht9 hpos hcl HAT HSK hn
          go_wp2_with fail
          go_loopw [2, 13] (fun v yv wi => ∃ (y i2 : Nat), y ≤ c9 ∧ yv = .int .i64 (y : Int) ∧ v = .int .i64 (i2 : Int) ∧ Hid (i2 + below lk y = i) ∧ i2 ≤ 1099511627776 ∧ Hid (RA w1.heap.size M l.length d ob g0 g1 d0 d1 p.h0 p.h1 p.rights p.side va lk acc wi) ∧ Hid (Below w1.heap.size w1 wi)) (fun _ yv _ => c9 + 1 - (intOf yv).toNat)
          case atStart => exact ⟨0, i, Nat.zero_le _, rfl, rfl, Lib.hid rfl, hbig, HRk, HBk⟩
          case round =>
            clear g0c lgr hGr HRk HBk hbig
            obtain ⟨y, i2, hy, rfl, rfl, HI2, hi2, HRz, HBz⟩ := hrel
            have hym : y < l.length := by have := HCL.out; omega
            obtain ⟨cy, fy⟩ := HRz.out.men.cellAt (j := y) (by rw [zs_len, HLK.out]; exact hym)
            rw [zs_get] at cy
            have lMz : M < wr.heap.size := World.block_lt_of_cell? _ _ cy
            obtain ⟨v, hv⟩ : ∃ v, v = lk.getD y 0 := ⟨_, rfl⟩
            have hv64 : v ≤ 64 := by rw [hv]; exact HVB.out y
            rw [← hv] at cy
            have HV0 := Lib.hid hv
            have t4 : decide ((y : Int) < (l.length : Int)) = true := by simp; omega
            have t5 : (0 : Int) ≤ (y : Int) := by omega
            have t6 : (y : Int) < (l.length : Int) := by omega
            clear hv
            by_cases hv0 : v = 0
            · have hyx : y < c9 := by
                by_cases e : y = c9
                · subst e; have := HPS.out; have := HV0.out; omega
                · omega
              have HI3 := Lib.hid (show i2 + below lk (y + 1) = i by
                have e : below lk (y + 1) = below lk y + term lk y := rfl
                rw [e, ← HI2.out]
                unfold term
                rw [if_pos (by rw [← HV0.out]; exact hv0)]
                omega)
              have t7 : ((v : Int) == 0) = true := by rw [hv0]; rfl
              have t8 : decide ((v : Int) = 0) = true := by rw [hv0]; rfl
              subst hv0
              go_wp2
              go_roundw
              case rel => exact ⟨y + 1, i2, by omega, by go_num, rfl, HI3, hi2, HRz, HBz⟩
              case measure => simp [intOf]; omega
            · have t7 : ((v : Int) == 0) = false := by rw [beq_eq_false_iff_ne]; omega
              have t8 : decide ((v : Int) = 0) = false := by simp; omega
              have i1 : IntKind.i64.wrap ((v : Int) - 1) = (v : Int) - 1 := IntWalk.i64_in _ (by omega)
              have hdz : (zs lk).set y ((v : Int) - 1) = zs (dec lk y) := by
                unfold zs dec
                rw [← HV0.out, List.map_set, show (((v - 1 : Nat)) : Int) = (v : Int) - 1 by omega]
              have HR9 := Lib.hid (HRz.out.setM hdz)
              have HB9 := Lib.hid (HBz.out.trans ((alters_cell wr M y (.int .i64 ((v : Int) - 1))).below HBz.out.size (fun z hz => by have e : z = M := hz; omega)))
              clear hdz HRz HBz
              go_upto_region 16 with (fail)
              generalize wr.setCell ⟨M, y, none⟩ (.int .i64 ((v : Int) - 1)) = wa at *
              clear cy fy lMz
              have htm : term lk y = ways (dec lk y) := by unfold term; rw [if_neg (by rw [← HV0.out]; exact hv0)]
              have htl := term_le HSM.out y
              have HWY := Lib.hid (rways_any (dec lk y) (some ⟨M, 0, none⟩) d wa.heap.size wa (by rw [dec_length, HLK.out]; omega) (by
                have h9 := sum_dec (l := lk) (x := y) (by rw [← HV0.out]; omega)
                have := HSM.out; omega) HR9.out.men.ints')
              rw [dec_length, HLK.out] at HWY
              have hWo := HWK.out
              have hbe : below lk (y + 1) = below lk y + term lk y := rfl
              have HTM := Lib.hid htm
              generalize hwyd : ways (dec lk y) = wy at *
              have HWD := Lib.hid hwyd
              clear hwyd
              have hwy : wy ≤ 1099511627776 := by omega
              obtain ⟨cy, fy⟩ := HR9.out.men.cellAt (j := y) (by rw [zs_len, dec_length, HLK.out]; exact hym)
              rw [zs_get, show (dec lk y).getD y 0 = v - 1 by rw [dec_at, if_pos rfl, HV0.out], show (((v - 1 : Nat)) : Int) = (v : Int) - 1 by omega] at cy
              have lMa : M < wa.heap.size := World.block_lt_of_cell? _ _ cy
              by_cases hyx : y < c9
              · have hle : below lk (y + 1) ≤ below lk c9 := below_le lk (by omega)
                have hge : wy ≤ i2 := by have := HI2.out; have := HC2.out; omega
                have HI3 := Lib.hid (show i2 - wy + below lk (y + 1) = i by have := HI2.out; omega)
                have t9 : decide ((i2 : Int) < (wy : Int)) = false := by simp; omega
                have e3 : (i2 : Int) - (wy : Int) = ((i2 - wy : Nat) : Int) := by omega
                have HE3 := Lib.hid e3
                have i2b : IntKind.i64.wrap ((i2 : Int) - (wy : Int)) = (i2 : Int) - (wy : Int) := IntWalk.i64_in _ (by omega)
                have i3 : IntKind.i64.wrap (v : Int) = (v : Int) := IntWalk.i64_in _ (by omega)
                have i4 : (v : Int) - 1 + 1 = (v : Int) := by omega
                have hdz : (zs (dec lk y)).set y (v : Int) = zs lk := by
                  unfold zs dec
                  rw [List.map_set, List.set_set]
                  have h9 : y < lk.length := by rw [HLK.out]; exact hym
                  apply List.ext_getElem
                  · simp
                  · intro j h1 h2
                    simp only [List.getElem_set, List.getElem_map]
                    by_cases e : y = j
                    · subst e
                      rw [if_pos rfl, HV0.out, List.getD_eq_getElem?_getD, List.getElem?_eq_getElem h9, Option.getD_some]
                    · rw [if_neg e]
                have HR2 := Lib.hid (HR9.out.setM hdz)
                have HB2 := Lib.hid (HB9.out.trans ((alters_cell wa M y (.int .i64 (v : Int))).below HB9.out.size (fun z hz => by have e : z = M := hz; omega)))
                clear hle htm htl hWo hbe e3 hdz HR9 HB9
                go_upto_region 20 with (go_at_call 29; refine HWY.out.mono ?_; rintro e w' ⟨⟨v2, hv2, rfl⟩, rfl⟩; obtain rfl : v2 = wy := by (rcases hv2 with ⟨_, h9⟩ | ⟨h9, _⟩ <;> omega))
                go_wp2
                go_roundw
                case rel => exact ⟨y + 1, i2 - v2, by omega, by go_num, by rw [← HE3.out], HI3, by omega, HR2, HB2⟩
                case measure => simp [intOf]; omega
              · obtain rfl : y = c9 := by omega
                have hlt9 : i2 < wy := by have := HI2.out; have := HC3.out; omega
                have t9 : decide ((i2 : Int) < (wy : Int)) = true := by simp; omega
                obtain ⟨hn1, hn3, hn4, hsk⟩ := HNX.out
                have hii : i - below lk y = i2 := by have := HI2.out; omega
                rw [hii] at hn1
                have HN1 := Lib.hid (show (acc ++ [y]) ++ atS (dec lk y) (bc - (k + 1)) i2 = atS l bc j by rw [hn2, List.append_assoc]; exact hn1)
                have HN2 := Lib.hid (show (dec lk y).sum = bc - (k + 1) by omega)
                have HN3 := Lib.hid (show (dec lk y).length = l.length by rw [dec_length]; exact HLK.out)
                have HN4 := Lib.hid (show i2 < ways (dec lk y) by rw [HWD.out]; exact hlt9)
                have HN5 := Lib.hid (show ways (dec lk y) ≤ 1099511627776 by rw [HWD.out]; exact hwy)
                have HN6 := Lib.hid (show (acc ++ [y]).length = k + 1 by rw [List.length_append, HAC.out]; rfl)
                have hbx := HR9.out.box
                have c0b : wa.cell? ⟨ob, 0, none⟩ = some va := bx_cell hbx 0 rfl
                have lob := bx_lt hbx
                have hbase : w1.heap.size ≤ wa.heap.size := HB9.out.size
                have hOA := OwnInts.upx HR9.out.out (below_alloc (Below.refl _ wa) (.cells #[.int .i64 (y : Int)] 3))
                have HRW := Lib.hid (show (wa.alloc (.cells #[.int .i64 (y : Int)] 3)).ownsRow w1.heap.size 3 1 va (zs acc).length ((zs acc).map (Value.int .i64)) from hOA)
                have hk2 : (zs acc).length < 2000 := by rw [zs_len, HAC.out]; omega
                clear hn1 hn3 hn4 hsk hii htm htl hWo hbe cy fy lMa hbx hOA
                go_upto_region 18 with (go_at_call 29; refine HWY.out.mono ?_; rintro e w' ⟨⟨v2, hv2, rfl⟩, rfl⟩; obtain rfl : v2 = wy := by (rcases hv2 with ⟨_, h9⟩ | ⟨h9, _⟩ <;> omega))
                go_wp2_with (refine wpList_pushC rfl 24 3 _ 1 8 Try.underlying24 info_int1 rfl (by decide) (by decide) (.tmp 74) (.tmp 76) rfl w1.heap.size va (zs acc).length ((zs acc).map (Value.int .i64)) rfl HRW.out hk2 (by simp; omega) _ 1 [.int .i64 (y : Int)] rfl rfl (World.alloc_heap_new _ _) (by simp [Value.oneCell']) ?_; intro g7 cap7 w7 hr7 hg7 hor7; obtain ⟨hp1, hp2, hp3⟩ := RA.push HR9.out hbase hr7 hg7 hor7; have HP1 := Lib.hid hp1; have HP2 := Lib.hid (HB9.out.trans hp2); have c07 := bx_cell hp3 0 rfl; have f07 := bx_frozen hp3 0; have l07 := bx_lt hp3; clear hr7 hg7 hor7 hp1 hp2 hp3)
                go_roundw
                case rel => exact ⟨k + 1, i2, dec lk y, acc ++ [y], _, by omega, by go_num, rfl, HN6, HN1, HN2, HN3, HN4, HN5, HP1, HP2⟩
                case measure => simp [intOf]; omega
        · obtain rfl : k = bc := by omega
          have hacc : acc = atS l k j := by
            have h9 := HAT.out
            rw [Nat.sub_self] at h9
            simp only [atS, List.append_nil] at h9
            exact h9
          have hbx := HRk.out.box
          have hof := HRk.out.out
          obtain ⟨ga, capa, rfl, hga, _⟩ := own_form hof (by rw [zs_len, HAC.out]; exact hb1)
          rw [zs_len, HAC.out] at hbx hof
          have hRr : wr.heap[x + 2]? = _ := hp_up HR1.out HBk.out
          have hRx := setRow_heap wr (x + 2) _ #[.slice (some ⟨ga, 0, none⟩) k capa, .slice (some ⟨g0, 0, none⟩) p.h0.length d0, .slice (some ⟨g1, 0, none⟩) p.h1.length d1, .int .i64 p.rights, .int .i64 p.side] _ _ hRr
          have haR := setRow_alt wr (x + 2) #[.slice (some ⟨ga, 0, none⟩) k capa, .slice (some ⟨g0, 0, none⟩) p.h0.length d0, .slice (some ⟨g1, 0, none⟩) p.h1.length d1, .int .i64 p.rights, .int .i64 p.side]
          have hk3 : ∀ {v : Value} {l : List Int}, OwnInts w1.heap.size wr v l → OwnInts w1.heap.size (wr.setRow (x + 2) #[.slice (some ⟨ga, 0, none⟩) k capa, .slice (some ⟨g0, 0, none⟩) p.h0.length d0, .slice (some ⟨g1, 0, none⟩) p.h1.length d1, .int .i64 p.rights, .int .i64 p.side]) v l := fun hv => hv.alters haR (fun q hq e => by
            have e2 : q = x + 2 := hq
            have := World.ownsRow.lt hv q e.symm
            omega)
          have hBw : Below w.heap.size w wr := below_step HBW1.out HBk.out
          have HRES := Lib.hid (show POwn w.heap.size (wr.setRow (x + 2) #[.slice (some ⟨ga, 0, none⟩) k capa, .slice (some ⟨g0, 0, none⟩) p.h0.length d0, .slice (some ⟨g1, 0, none⟩) p.h1.length d1, .int .i64 p.rights, .int .i64 p.side]) (some ⟨ga, 0, none⟩) (some ⟨g0, 0, none⟩) (some ⟨g1, 0, none⟩) capa d0 d1 ⟨zs (atS l k j), p.h0, p.h1, p.rights, p.side⟩ ∧ Below w.heap.size w (wr.setRow (x + 2) #[.slice (some ⟨ga, 0, none⟩) k capa, .slice (some ⟨g0, 0, none⟩) p.h0.length d0, .slice (some ⟨g1, 0, none⟩) p.h1.length d1, .int .i64 p.rights, .int .i64 p.side]) from
            ⟨⟨by dsimp only; rw [← hacc, zs_len, HAC.out]; exact OwnInts.mono (hk3 hof) HBW1.out.size, OwnInts.mono (hk3 HRk.out.o0) HBW1.out.size, OwnInts.mono (hk3 HRk.out.o1) HBW1.out.size⟩, hBw.trans (haR.below hBw.size (fun q hq => by have e2 : q = x + 2 := hq; have := HX.out; omega))⟩)
          have HV2 := Lib.hid HV.out.symm
          have HLA := Lib.hid (show (atS l k j).length = k by rw [← hacc]; exact HAC.out)
          have HB9 := Lib.hid hbx
          have HR9 := Lib.hid hRr
          have HRX := Lib.hid hRx
          have t3 : decide ((k : Int) < (k : Int)) = false := by simp
          clear hbx hof hRr hRx haR hk3 hBw hacc HAT HRk HBk
          go_wp2_with (first | (refine wpList_load_row rfl 27 (.tmp 11) rfl ob rfl 27 _ (0, 0) _ HB9.out Try.underlying27 rfl info_pos ?_) | (refine wpList_store_row rfl 27 (.tmp 6) (.tmp 88) rfl (x + 2) #[.slice (some ⟨ga, 0, none⟩) k capa, .slice (some ⟨g0, 0, none⟩) p.h0.length d0, .slice (some ⟨g1, 0, none⟩) p.h1.length d1, .int .i64 p.rights, .int .i64 p.side] rfl rfl 27 _ HR9.out info_pos rfl (by simp [Value.oneCell']) ?_))
          generalize wr.setRow (x + 2) #[.slice (some ⟨ga, 0, none⟩) k capa, .slice (some ⟨g0, 0, none⟩) p.h0.length d0, .slice (some ⟨g1, 0, none⟩) p.h1.length d1, .int .i64 p.rights, .int .i64 p.side] = w7 at *
          (try simp only [Exit.inBlock, Exit.then])
          refine bodyPost_ret (results_ct rfl _ _ _ ⟨x + 2, 0, none⟩ _ rfl (run_loadVar_row w7 (x + 2) 27 27 _ (0, 0) _ HRX.out Try.underlying27 rfl info_pos)) rfl ?_
          exact ⟨some ⟨ga, 0, none⟩, some ⟨g0, 0, none⟩, some ⟨g1, 0, none⟩, capa, d0, d1, by rw [HV2.out]; unfold PosV; dsimp only; rw [zs_len, HLA.out]; rfl, by rw [HV2.out]; exact HRES.out⟩
    · rw [if_neg hi] at HV
      have HF := Lib.hid HV.out.symm
      by_cases hi0 : i < 0
      · have t1 : decide (i < 0) = true := by simpa using hi0
        clear hi hi0
        go_wp2_with (first | (refine wpList_load_row rfl 35 (.tmp 3) rfl x rfl 35 _ (0, 0) _ hG Try.underlying35 rfl info_game ?_) | (refine wpList_load_row rfl 39 (.tmp 4) rfl (x + 1) rfl 39 _ (0, 0) _ hQ Try.underlying39 rfl info_mat ?_) | (go_at_call 15; refine HS.out.mono ?_; rintro e w1 ⟨rfl, hb1⟩; have hR1 := hp_up hR hb1) | (refine wpList_store_row rfl 27 (.tmp 6) (.tmp 31) rfl (x + 2) #[.slice none 0 0, .slice none 0 0, .slice none 0 0, .int .i64 0, .int .i64 0] rfl rfl 27 _ hR1 info_pos rfl (by simp [Value.oneCell']) ?_))
        have hZ := setRow_heap w1 (x + 2) _ #[.slice none 0 0, .slice none 0 0, .slice none 0 0, .int .i64 0, .int .i64 0] _ _ hR1
        have hbz : Below x w (w1.setRow (x + 2) #[.slice none 0 0, .slice none 0 0, .slice none 0 0, .int .i64 0, .int .i64 0]) := (hb0.trans (hb1.mono (by have := HS0.out; omega))).trans ((setRow_alt w1 (x + 2) _).below (by have := bx_lt hR1; omega) (fun z hz => by have : z = x + 2 := hz; omega))
        generalize w1.setRow (x + 2) #[.slice none 0 0, .slice none 0 0, .slice none 0 0, .int .i64 0, .int .i64 0] = w2 at *
        (try simp only [Exit.inBlock, Exit.then])
        refine bodyPost_ret (zero_end rfl _ (x + 2) _ rfl hZ) rfl ?_
        exact ⟨none, none, none, 0, 0, 0, by rw [HF.out]; rfl, by rw [HF.out]; exact zero_own _ _, by have e := HX.out; rw [← e]; exact hbz⟩
      · have t1 : decide (i < 0) = false := by simpa using hi0
        have hge : ((ways (nats p.cells) : Nat) : Int) ≤ i := by omega
        have t2 : decide (((ways (nats p.cells) : Nat) : Int) ≤ i) = true := by simpa using hge
        clear hi hi0
        go_wp2_with (first | (refine wpList_load_row rfl 35 (.tmp 3) rfl x rfl 35 _ (0, 0) _ hG Try.underlying35 rfl info_game ?_) | (refine wpList_load_row rfl 39 (.tmp 4) rfl (x + 1) rfl 39 _ (0, 0) _ hQ Try.underlying39 rfl info_mat ?_) | (go_at_call 15; refine HS.out.mono ?_; rintro e w1 ⟨rfl, hb1⟩; have hR1 := hp_up hR hb1) | (refine wpList_store_row rfl 27 (.tmp 6) (.tmp 31) rfl (x + 2) #[.slice none 0 0, .slice none 0 0, .slice none 0 0, .int .i64 0, .int .i64 0] rfl rfl 27 _ hR1 info_pos rfl (by simp [Value.oneCell']) ?_))
        have hZ := setRow_heap w1 (x + 2) _ #[.slice none 0 0, .slice none 0 0, .slice none 0 0, .int .i64 0, .int .i64 0] _ _ hR1
        have hbz : Below x w (w1.setRow (x + 2) #[.slice none 0 0, .slice none 0 0, .slice none 0 0, .int .i64 0, .int .i64 0]) := (hb0.trans (hb1.mono (by have := HS0.out; omega))).trans ((setRow_alt w1 (x + 2) _).below (by have := bx_lt hR1; omega) (fun z hz => by have : z = x + 2 := hz; omega))
        generalize w1.setRow (x + 2) #[.slice none 0 0, .slice none 0 0, .slice none 0 0, .int .i64 0, .int .i64 0] = w2 at *
        (try simp only [Exit.inBlock, Exit.then])
        refine bodyPost_ret (zero_end rfl _ (x + 2) _ rfl hZ) rfl ?_
        exact ⟨none, none, none, 0, 0, 0, by rw [HF.out]; rfl, by rw [HF.out]; exact zero_own _ _, by have e := HX.out; rw [← e]; exact hbz⟩
  · rw [if_neg he] at HV
    have HF := Lib.hid HV.out.symm
    have HE := Lib.hid (show (sizeV bc r ks p).2 ≠ 0 from he)
    obtain ⟨ev, hev⟩ : ∃ ev, (sizeV bc r ks p).2 = ev := ⟨_, rfl⟩
    rw [hev] at HS HF HE
    have t1 : (((ev : Nat) : Int) != 0) = true := by have := HE.out; simp; omega
    have t2 : decide (((ev : Nat) : Int) = 0) = false := by have := HE.out; simp; omega
    clear he hev
    go_wp2_with (first | (refine wpList_load_row rfl 35 (.tmp 3) rfl x rfl 35 _ (0, 0) _ hG Try.underlying35 rfl info_game ?_) | (refine wpList_load_row rfl 39 (.tmp 4) rfl (x + 1) rfl 39 _ (0, 0) _ hQ Try.underlying39 rfl info_mat ?_) | (go_at_call 15; refine HS.out.mono ?_; rintro e w1 ⟨rfl, hb1⟩; have hR1 := hp_up hR hb1) | (refine wpList_store_row rfl 27 (.tmp 6) (.tmp 22) rfl (x + 2) #[.slice none 0 0, .slice none 0 0, .slice none 0 0, .int .i64 0, .int .i64 0] rfl rfl 27 _ hR1 info_pos rfl (by simp [Value.oneCell']) ?_))
    have hZ := setRow_heap w1 (x + 2) _ #[.slice none 0 0, .slice none 0 0, .slice none 0 0, .int .i64 0, .int .i64 0] _ _ hR1
    have hbz : Below x w (w1.setRow (x + 2) #[.slice none 0 0, .slice none 0 0, .slice none 0 0, .int .i64 0, .int .i64 0]) := (hb0.trans (hb1.mono (by have := HS0.out; omega))).trans ((setRow_alt w1 (x + 2) _).below (by have := bx_lt hR1; omega) (fun z hz => by have : z = x + 2 := hz; omega))
    generalize w1.setRow (x + 2) #[.slice none 0 0, .slice none 0 0, .slice none 0 0, .int .i64 0, .int .i64 0] = w2 at *
    (try simp only [Exit.inBlock, Exit.then])
    refine bodyPost_ret (zero_end rfl _ (x + 2) _ rfl hZ) rfl ?_
    exact ⟨none, none, none, 0, 0, 0, by rw [HF.out]; rfl, by rw [HF.out]; exact zero_own _ _, by have e := HX.out; rw [← e]; exact hbz⟩
end Go.Proofs.Ytepbmgbomdekaaa
