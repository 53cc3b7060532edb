/-
  Of the reference: Size.
-/
import Derived.Test.YtepbmgbomdekaaaXSize
import Derived.Test.YtepbmgbomdekaaaXRVal
namespace Go.Proofs.Ytepbmgbomdekaaa
open Go Go.RowKit

set_option maxRecDepth 100000 in
set_option maxHeartbeats 2000000 in
theorem rsize_any (bc r : Nat) (ks : List Bool) (vn vt vm vc vb ve : Value) (p : PosS) (ak b b0 b1 : Option Addr) (ck c c0 c1 N : Nat) (w : World) (hbc : bc ≤ 64) (hr : r ≤ 2) (hks : ks.length ≤ 3) (hp : PosFit p) (hN : N ≤ w.heap.size) (hP : PosIn N w b b0 b1 p) (hK : Keeps N w ak ks) :
    Calls Try.prog 15 #[.agg #[.int .i64 (bc : Int), vn, vt, .slice ak ks.length ck, .int .i64 (r : Int), vm, vc, vb, ve], PosV b b0 b1 c c0 c1 p] w fun e w' => e = .returned (.tuple #[.int .i64 (((sizeV bc r ks p).1 : Nat) : Int), .int .i64 (((sizeV bc r ks p).2 : Nat) : Int)]) ∧ Below w.heap.size w w' := by
  obtain ⟨V, hV⟩ : ∃ V, sizeV bc r ks p = V := ⟨_, rfl⟩
  rw [hV]
  unfold sizeV at hV
  have HV := Lib.hid hV
  clear hV
  go_enter Try.func15, Try.ntmps15
  go_upto_region 1 with (fail)
  unfold PosV
  obtain ⟨hb0, hG, hQ, hS0⟩ := two_boxes w #[.int .i64 (bc : Int), vn, vt, .slice ak ks.length ck, .int .i64 (r : Int), vm, vc, vb, ve] #[.slice b p.cells.length c, .slice b0 p.h0.length c0, .slice b1 p.h1.length c1, .int .i64 p.rights, .int .i64 p.side] 35 39
  generalize (w.alloc (.cells #[.int .i64 (bc : Int), vn, vt, .slice ak ks.length ck, .int .i64 (r : Int), vm, vc, vb, ve] 35)).alloc (.cells #[.slice b p.cells.length c, .slice b0 p.h0.length c0, .slice b1 p.h1.length c1, .int .i64 p.rights, .int .i64 p.side] 39) = w0 at *
  have HM := Lib.hid (rmat_any bc r ks vn vt vm vc vb ve p ak b b0 b1 ck c c0 c1 N w0 hbc hr hks hp (Nat.le_trans hN hb0.size) (hP.up hN hb0) (hK.below (hb0.mono hN)))
  unfold PosV at HM
  have HP0 := Lib.hid (hP.up hN hb0)
  have hN0 : N ≤ w0.heap.size := Nat.le_trans hN hb0.size
  have hl13 : ks.length ≤ 3 := hks
  clear hS0 hP hK hN
  cases hm : matB bc r ks p with
  | false =>
    rw [hm] at HM HV
    have HF := Lib.hid (show V = (0, 140) by rw [← HV.out]; rfl)
    clear hm
    go_wp2_with (first | (refine wpList_load_row rfl 35 (.tmp 2) rfl w.heap.size rfl 35 _ (0, 0) _ hG Try.underlying35 rfl info_game ?_) | (refine wpList_load_row rfl 39 (.tmp 3) rfl (w.heap.size + 1) rfl 39 _ (0, 0) _ hQ Try.underlying39 rfl info_mat ?_) | (go_at_call 17; refine HM.out.mono ?_; rintro e w1 ⟨rfl, hb1⟩))
    go_ret2
    exact ⟨by rw [HF.out]; rfl, below_step hb0 hb1⟩
  | true =>
    rw [hm] at HM HV
    obtain ⟨l, el, hs, hll⟩ := mat_some hm
    rw [el, nats_zs] at HV
    have HP1 := Lib.hid (show Ints N w0 b (zs l) by rw [← el]; exact HP0.out.cells)
    have HL := Lib.hid (show p.cells.length = l.length by rw [el, zs_len])
    have hl1 : l.length ≤ 13 := by omega
    have hs1 : l.sum ≤ 64 := by omega
    rw [HL.out] at HM hQ
    clear hm hs hll el
    go_upto_region 3 with (first | (refine wpList_load_row rfl 35 (.tmp 2) rfl w.heap.size rfl 35 _ (0, 0) _ hG Try.underlying35 rfl info_game ?_) | (refine wpList_load_row rfl 39 (.tmp 3) rfl (w.heap.size + 1) rfl 39 _ (0, 0) _ hQ Try.underlying39 rfl info_mat ?_) | (go_at_call 17; refine HM.out.mono ?_; rintro e w1 ⟨rfl, hb1⟩))
    have HA := Lib.hid (rways_any l b c N w1 (by omega) hs1 (HP1.out.up hN0 hb1))
    have hQ1 := hp_up hQ hb1
    have q0 : w1.cell? ⟨w.heap.size + 1, 0, none⟩ = some (.slice b l.length c) := bx_cell hQ1 0 rfl
    have lq := bx_lt hQ1
    clear HM HP1 hQ hQ1 hG
    go_upto_region 4 with (go_at_call 29; refine HA.out.mono ?_; rintro e w' ⟨⟨v, hv, rfl⟩, rfl⟩)
    by_cases h : v ≤ 1099511627776
    · have t1 : decide ((1099511627776 : Int) < (v : Int)) = false := by simp; omega
      obtain ⟨e1, e2⟩ := hv.le h
      have HF := Lib.hid (show V = (v, 0) by rw [← HV.out, e1]; simp [e2])
      clear h hv e1 e2 HA
      go_wp2
      go_ret2
      exact ⟨by rw [HF.out]; rfl, below_step hb0 hb1⟩
    · have t1 : decide ((1099511627776 : Int) < (v : Int)) = true := by simp; omega
      have e2 := hv.gt (by omega)
      have HF := Lib.hid (show V = (0, 2) by rw [← HV.out]; simp; omega)
      clear h hv e2 HA
      go_wp2
      go_ret2
      exact ⟨by rw [HF.out]; rfl, below_step hb0 hb1⟩
end Go.Proofs.Ytepbmgbomdekaaa
