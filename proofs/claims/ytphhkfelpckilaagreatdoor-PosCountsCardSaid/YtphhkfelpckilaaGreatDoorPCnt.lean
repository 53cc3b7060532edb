/-
  PosCounts returns true, given that the examples do.
-/

import Derived.Test.YtphhkfelpckilaaGreatDoorGGame
import Derived.Test.YtphhkfelpckilaaGreatDoorGPos
import Derived.Test.YtphhkfelpckilaaGreatDoorPCntA
import Derived.Test.YtphhkfelpckilaaGreatDoorDParse
import Derived.Deep.QuietTactic
namespace Go.Proofs.YtphhkfelpckilaaGreatDoor
open Go Go.RowKit

set_option maxRecDepth 100000 in
set_option maxHeartbeats 4000000 in
theorem pcnt_any (Lib4 : World → Prop) (hS : ∀ W, Lib4 W → Calls Tryz.prog 12 #[] W fun e w' => e = .returned (.bool true) ∧ Below W.heap.size W w')
    (hUp : ∀ W W', Lib4 W → Below W.heap.size W W' → Lib4 W')
    (x : GRaw) (a0 a1 a2 : Option Addr) (c0 c1 c2 N : Nat) (y : PRaw) (v0 v1 : Nat) (w : World) (hL : Lib4 w) (hN : N ≤ w.heap.size) (hI : GRawIn N w a0 a1 a2 x) (hy : y.Ok) (hv0 : v0 ≤ 255) (hv1 : v1 ≤ 255) :
    Calls Tryz.prog 7 #[.agg (x.cells a0 a1 a2 c0 c1 c2), .agg y.cells, .agg #[.int .u8 (v0 : Int), .int .u8 (v1 : Int)]] w fun e w' => e = .returned (.bool true) ∧ Below w.heap.size w w' := by
  have HMG := Lib.hid (fun W h => made_game x a0 a1 a2 c0 c1 c2 N W h)
  have hsx : (x.cells a0 a1 a2 c0 c1 c2).size = 12 := rfl
  have hshY : y.cells.size = 18 := rfl
  have HMY := Lib.hid (fun bc r ks vn vt vm vc vb ve ak ck N W h1 h2 h3 h5 h6 => made_pos bc r ks vn vt vm vc vb ve ak ck N y W h1 h2 h3 hy h5 h6)
  generalize y.cells = ys at *
  generalize x.cells a0 a1 a2 c0 c1 c2 = xs at *
  go_enter Tryz.func7, Tryz.ntmps7
  go_upto_region 1 with (fail)
  have hb0 : Below w.heap.size w (((w.alloc (.cells xs 27)).alloc (.cells ys 61)).alloc (.cells #[.int .u8 (v0 : Int), .int .u8 (v1 : Int)] 64)) := below_alloc (below_alloc (below_alloc (Below.refl _ _) _) _) _
  have hX0 : (((w.alloc (.cells xs 27)).alloc (.cells ys 61)).alloc (.cells #[.int .u8 (v0 : Int), .int .u8 (v1 : Int)] 64)).heap[w.heap.size]? = some (.cells xs 27 (0, 0)) := hp_old_at (hp_old_at (World.alloc_heap_new _ _))
  have hY0 : (((w.alloc (.cells xs 27)).alloc (.cells ys 61)).alloc (.cells #[.int .u8 (v0 : Int), .int .u8 (v1 : Int)] 64)).heap[w.heap.size + 1]? = some (.cells ys 61 (0, 0)) := hp_old_at (hp_new_at _ _ (by simp))
  have hV0 : (((w.alloc (.cells xs 27)).alloc (.cells ys 61)).alloc (.cells #[.int .u8 (v0 : Int), .int .u8 (v1 : Int)] 64)).heap[w.heap.size + 1 + 1]? = some (.cells #[.int .u8 (v0 : Int), .int .u8 (v1 : Int)] 64 (0, 0)) := hp_new_at _ _ (by simp)
  generalize (((w.alloc (.cells xs 27)).alloc (.cells ys 61)).alloc (.cells #[.int .u8 (v0 : Int), .int .u8 (v1 : Int)] 64)) = w0 at *
  go_wp2_with fail
  refine (hS w0 (hUp _ _ hL hb0)).mono ?_
  rintro e w1 ⟨rfl, hb1⟩
  have hX1 := (hb1.block _ (bx_lt hX0)).trans hX0
  have hY1 := (hb1.block _ (bx_lt hY0)).trans hY0
  have hV1 := (hb1.block _ (bx_lt hV0)).trans hV0
  have hbw1 := below_step hb0 hb1
  have hI1 := hI.up hN hbw1
  have hN1 := Nat.le_trans hN hbw1.size
  clear hX0 hY0 hV0 hb0 hb1 hS hUp hL
  go_wp2_with (with_reducible refine wpList_load_row rfl 27 (.tmp 3) rfl w.heap.size rfl 27 xs (0, 0) _ hX1 Tryz.underlying27 rfl (by rw [hsx]; exact info_raw3) ?_)
  refine (HMG.out _ hN1 hI1).mono ?_
  rintro e w2 ⟨bc, r, ks, an, at_, ak, ac, ln, cn, lt, ct, ck, lc, cc, mu, bl, en, rfl, hK, hbc, hr, hks, hb2⟩
  have hY2 := (hb2.block _ (bx_lt hY1)).trans hY1
  have hV2 := (hb2.block _ (bx_lt hV1)).trans hV1
  have hgx := bx_lt hV2
  have hbw2 := below_step hbw1 hb2
  clear hX1 hY1 hV1 hb2 hI1 HMG hbw1 hN1
  go_upto_region 3 with (fail)
  have hG3 : (w2.alloc (.cells #[.int .i64 (bc : Int), .slice an ln cn, .slice at_ lt ct, .slice ak ks.length ck, .int .i64 (r : Int), .bool mu, .slice ac lc cc, .int .i64 bl, .int .i64 en] 41)).heap[w2.heap.size]? = some (.cells #[.int .i64 (bc : Int), .slice an ln cn, .slice at_ lt ct, .slice ak ks.length ck, .int .i64 (r : Int), .bool mu, .slice ac lc cc, .int .i64 bl, .int .i64 en] 41 (0, 0)) := World.alloc_heap_new _ _
  have hb23 := below_alloc (Below.refl _ w2) (.cells #[.int .i64 (bc : Int), .slice an ln cn, .slice at_ lt ct, .slice ak ks.length ck, .int .i64 (r : Int), .bool mu, .slice ac lc cc, .int .i64 bl, .int .i64 en] 41)
  have hY3 := (hb23.block _ (bx_lt hY2)).trans hY2
  have hV3 := (hb23.block _ (bx_lt hV2)).trans hV2
  have hK3 := hK.below hb23
  have hbw3 := below_step hbw2 hb23
  have hN3 := hb23.size
  have hs3 : (w2.alloc (.cells #[.int .i64 (bc : Int), .slice an ln cn, .slice at_ lt ct, .slice ak ks.length ck, .int .i64 (r : Int), .bool mu, .slice ac lc cc, .int .i64 bl, .int .i64 en] 41)).heap.size = w2.heap.size + 1 := by simp
  generalize (w2.alloc (.cells #[.int .i64 (bc : Int), .slice an ln cn, .slice at_ lt ct, .slice ak ks.length ck, .int .i64 (r : Int), .bool mu, .slice ac lc cc, .int .i64 bl, .int .i64 en] 41)) = w3 at *
  generalize w2.heap.size = gb at *
  have HIG : (Tryz.prog.info? 41).map (·.size) = some (#[.int .i64 (bc : Int), .slice an ln cn, .slice at_ lt ct, .slice ak ks.length ck, .int .i64 (r : Int), .bool mu, .slice ac lc cc, .int .i64 bl, .int .i64 en] : Array Value).size := info_game9
  clear hY2 hV2 hK hb23 hbw2
  go_wp2_with (first | (with_reducible refine wpList_load_row rfl 41 (.tmp 8) rfl gb rfl 41 _ (0, 0) _ hG3 Tryz.underlying41 rfl HIG ?_) | (with_reducible refine wpList_load_row rfl 61 (.tmp 4) rfl (w.heap.size + 1) rfl 61 ys (0, 0) _ hY3 Tryz.underlying61 rfl (by rw [hshY]; exact info_raw4) ?_))
  refine (HMY.out bc r ks _ _ _ _ _ _ ak ck gb w3 hbc hr hks hN3 hK3).mono ?_
  rintro e w4 ⟨p, A, B0, B1, c, c0, c1, rfl, HPO, HPN, HPG, -, hb34⟩
  have hG4 := (hb34.block _ (bx_lt hG3)).trans hG3
  have hV4 := (hb34.block _ (bx_lt hV3)).trans hV3
  have hbw4 := below_step hbw3 hb34
  have hN4 := Nat.le_trans hN3 hb34.size
  have hK4 := hK3.below (hb34.mono hN3)
  have hsz4 := hb34.size
  clear hG3 hbw3 hN3 hK3 hb34 hV3 hY3
  go_upto_region 4 with (fail)
  have hP5 : (w4.alloc (.cells #[.slice (some ⟨A, 0, none⟩) p.cells.length c, .slice (some ⟨B0, 0, none⟩) p.h0.length c0, .slice (some ⟨B1, 0, none⟩) p.h1.length c1, .int .i64 p.rights, .int .i64 p.side] 32)).heap[w4.heap.size]? = some (.cells #[.slice (some ⟨A, 0, none⟩) p.cells.length c, .slice (some ⟨B0, 0, none⟩) p.h0.length c0, .slice (some ⟨B1, 0, none⟩) p.h1.length c1, .int .i64 p.rights, .int .i64 p.side] 32 (0, 0)) := World.alloc_heap_new _ _
  have hb45 := below_alloc (Below.refl _ w4) (.cells #[.slice (some ⟨A, 0, none⟩) p.cells.length c, .slice (some ⟨B0, 0, none⟩) p.h0.length c0, .slice (some ⟨B1, 0, none⟩) p.h1.length c1, .int .i64 p.rights, .int .i64 p.side] 32)
  have hG5 := (hb45.block _ (bx_lt hG4)).trans hG4
  have hV5 := (hb45.block _ (bx_lt hV4)).trans hV4
  have hK5 := hK4.below (hb45.mono hN4)
  have hN5 := Nat.le_trans hN4 hb45.size
  have hbw5 := below_step hbw4 hb45
  have HPO5 := HPO.up hb45
  have hsz5 : (w4.alloc (.cells #[.slice (some ⟨A, 0, none⟩) p.cells.length c, .slice (some ⟨B0, 0, none⟩) p.h0.length c0, .slice (some ⟨B1, 0, none⟩) p.h1.length c1, .int .i64 p.rights, .int .i64 p.side] 32)).heap.size = w4.heap.size + 1 := by simp
  generalize w4.alloc (.cells #[.slice (some ⟨A, 0, none⟩) p.cells.length c, .slice (some ⟨B0, 0, none⟩) p.h0.length c0, .slice (some ⟨B1, 0, none⟩) p.h1.length c1, .int .i64 p.rights, .int .i64 p.side] 32) = w5 at *
  generalize w4.heap.size = pb at *
  clear hG4 hK4 hbw4 HPO hb45 hN4 hV4
  have HIP : (Tryz.prog.info? 32).map (·.size) = some (#[.slice (some ⟨A, 0, none⟩) p.cells.length c, .slice (some ⟨B0, 0, none⟩) p.h0.length c0, .slice (some ⟨B1, 0, none⟩) p.h1.length c1, .int .i64 p.rights, .int .i64 p.side] : Array Value).size := info_pos8
  have hPI := HPO5.in_
  have HPL := Lib.hid HPG.all.len
  have hin : ∀ x ∈ p.cells, 0 ≤ x ∧ x ≤ 2 * (ks.length : Int) := by
    intro x hx
    have := HPG.all.cells
    unfold allIn at this
    rw [List.all_eq_true] at this
    have := this x hx
    unfold upToB at this
    simpa using this
  have HC := Lib.hid (fun W (side : Int) (h : Below w5.heap.size w5 W) => count_some ks.length side (.int .i64 (bc : Int)) (.slice an ln cn) (.slice at_ lt ct) (.int .i64 (r : Int)) (.bool mu) (.slice ac lc cc) (.int .i64 bl) (.int .i64 en) p ak (some ⟨A, 0, none⟩) (some ⟨B0, 0, none⟩) (some ⟨B1, 0, none⟩) ck c c0 c1 _ W hks.1 (by omega) HPG.fit h.size (hPI.up (Nat.le_refl _) h))
  have hb55 := Below.refl w5.heap.size w5
  go_wp2_with (first | (with_reducible refine wpList_load_row rfl 41 (.tmp 8) rfl gb rfl 41 _ (0, 0) _ hG5 Tryz.underlying41 rfl HIG ?_) | (with_reducible refine wpList_load_row rfl 32 (.tmp 9) rfl pb rfl 32 _ (0, 0) _ hP5 Tryz.underlying32 rfl HIP ?_))
  refine (HC.out w5 0 hb55).mono ?_
  rintro e w6 ⟨ga, ca, rfl, hOA, hb56⟩
  have hG6 := (hb56.block _ (bx_lt hG5)).trans hG5
  have hP6 := (hb56.block _ (bx_lt hP5)).trans hP5
  clear hb55
  go_wp2_with (first | (with_reducible refine wpList_load_row rfl 41 (.tmp 8) rfl gb rfl 41 _ (0, 0) _ hG6 Tryz.underlying41 rfl HIG ?_) | (with_reducible refine wpList_load_row rfl 32 (.tmp 9) rfl pb rfl 32 _ (0, 0) _ hP6 Tryz.underlying32 rfl HIP ?_))
  refine (HC.out w6 1 hb56).mono ?_
  rintro e w7 ⟨gb2, cb, rfl, hOB, hb67⟩
  have hb57 := below_step hb56 hb67
  have hG7 := (hb57.block _ (bx_lt hG5)).trans hG5
  have hP7 := (hb57.block _ (bx_lt hP5)).trans hP5
  have hV7 := (hb57.block _ (bx_lt hV5)).trans hV5
  have hOA7 := hOA.up2 hb67
  have hPO7 := HPO5.up hb57
  have hbw7 := below_step hbw5 hb57
  have HLA := Lib.hid (countTo_len ks.length 0 p.cells)
  have HLB := Lib.hid (countTo_len ks.length 1 p.cells)
  have hc9 : p.cells.length ≤ 9 := by have := HPL.out; omega
  have hc1 : 1 ≤ p.cells.length := by have := HPL.out; omega
  have HTOT := Lib.hid (all_cells (nk := ks.length) (by omega) hin)
  have inA := countTo_in 0 hc9 ks.length
  have inB := countTo_in 1 hc9 ks.length
  have HPW := Lib.hid (fun W (hW : Below w7.heap.size w7 W) => (hPI.up (Nat.le_refl _) (below_step hb57 hW)))
  have hs57 := hb57.size
  have HC7 := Lib.hid (fun W (side : Int) (hW : Below w7.heap.size w7 W) => HC.out W side (below_step hb57 hW))
  generalize countTo ks.length 0 p.cells = LA at *
  generalize countTo ks.length 1 p.cells = LB at *
  have n3 : ((p.cells.length : Int) == 0) = false := by rw [beq_eq_false_iff_ne]; omega
  have n4 : ¬ ((p.cells.length : Int) = 0) := by omega
  have n5 : ¬ p.cells = [] := fun h => by rw [h] at hc1; simp at hc1
  have n1 : ((ks.length : Int) == 0) = false := by rw [beq_eq_false_iff_ne]; omega
  have n2 : ¬ ((ks.length : Int) = 0) := by omega
  have n6 : ¬ ks = [] := fun h => by have := hks.1; rw [h] at this; simp at this
  have e1 : ((v0 : Nat) : Int).tmod (p.cells.length : Int) = ((v0 % p.cells.length : Nat) : Int) := by rw [Int.tmod_eq_emod_of_nonneg (by omega)]; exact (Int.natCast_emod _ _).symm
  have l1 := Nat.mod_lt v0 (show 0 < p.cells.length by omega)
  have e2 : ((v1 : Nat) : Int).tdiv 2 = ((v1 / 2 : Nat) : Int) := rfl
  have e3 : ((v1 / 2 : Nat) : Int).tmod (ks.length : Int) = ((v1 / 2 % ks.length : Nat) : Int) := by rw [Int.tmod_eq_emod_of_nonneg (by omega)]; exact (Int.natCast_emod _ _).symm
  have l3 := Nat.mod_lt (v1 / 2) (show 0 < ks.length by omega)
  have e4 : ((v1 : Nat) : Int).tmod 2 = ((v1 % 2 : Nat) : Int) := rfl
  have l4 := Nat.mod_lt v1 (show 0 < 2 by omega)
  have l5 : v1 / 2 ≤ 127 := by omega
  generalize v0 % p.cells.length = ic at *
  generalize v1 / 2 % ks.length = kd at *
  generalize v1 / 2 = vh at *
  generalize v1 % 2 = sd at *
  have i1 : IntKind.i64.wrap (v0 : Int) = (v0 : Int) := IntWalk.i64_in _ (by omega)
  have i2 : IntKind.u8.wrap (vh : Int) = (vh : Int) := u8_id _ (by omega)
  have i3 : IntKind.i64.wrap (vh : Int) = (vh : Int) := IntWalk.i64_in _ (by omega)
  have i4 : IntKind.u8.wrap (sd : Int) = (sd : Int) := u8_id _ (by omega)
  have i5 : IntKind.i64.wrap (sd : Int) = (sd : Int) := IntWalk.i64_in _ (by omega)
  have i6 : IntKind.i64.wrap (ic : Int) = (ic : Int) := IntWalk.i64_in _ (by omega)
  have i7 : IntKind.i64.wrap (kd : Int) = (kd : Int) := IntWalk.i64_in _ (by omega)
  have j1 : IntKind.i64.wrap (2 * (kd : Int)) = 2 * (kd : Int) := IntWalk.i64_in _ (by omega)
  have j2 : IntKind.i64.wrap (1 + 2 * (kd : Int)) = 1 + 2 * (kd : Int) := IntWalk.i64_in _ (by omega)
  have j3 : IntKind.i64.wrap (1 + 2 * (kd : Int) + (sd : Int)) = 1 + 2 * (kd : Int) + (sd : Int) := IntWalk.i64_in _ (by omega)
  have HG7 := Lib.hid hG7
  have HP7 := Lib.hid hP7
  have HV7 := Lib.hid hV7
  have HOA := Lib.hid hOA7
  have HOB := Lib.hid hOB
  have HPO := Lib.hid hPO7
  have HBW := Lib.hid hbw7
  have g3 := bx_cell hG7 3 rfl
  have hgl := bx_lt hG7
  have hpl7 := bx_lt hP7
  have hvl := bx_lt hV7
  clear hs3 hsz4 hsz5 hG5 hP5 hV5 hb56 hb67 hb57 hOA hG6 hP6 HPO5 hPI hOA7 hOB hPO7 hbw7 hbw5 hG7 hP7 hV7 hK5 hN5 HMY hin HPN
  go_wp2_with fail
  clear g3
  go_loopw [12, 13] (fun v i wr => ∃ (k : Nat) (z : Int), k ≤ ks.length ∧ v = .int .i64 z ∧ i = .int .i64 k ∧ Hid (z = (LA.take k).sum + (LB.take k).sum) ∧ Below w7.heap.size w7 wr) (fun _ i _ => ks.length - (intOf i).toNat)
  case atStart => exact ⟨0, 0, Nat.zero_le _, rfl, rfl, Lib.hid (by simp), Below.refl _ _⟩
  case round =>
    obtain ⟨k, z, hk, rfl, rfl, HZ, hb⟩ := hrel
    generalize wr = w8 at *
    have hzb : 0 ≤ z ∧ z ≤ 36 := by
      have h1 := take_sum_in inA k
      have h2 := take_sum_in inB k
      rw [HZ.out]; omega
    by_cases hlt : k < ks.length
    · skip
      have t1 : decide (k < ks.length) = true := by simpa using hlt
      have t1' : decide ((k : Int) < (ks.length : Int)) = true := by simpa using hlt
      obtain ⟨za, fa⟩ := (HOA.out.up2 hb).cellAt (j := k) (by rw [HLA.out]; exact hlt)
      obtain ⟨zb, fb⟩ := (HOB.out.up2 hb).cellAt (j := k) (by rw [HLB.out]; exact hlt)
      have ba := inA k
      have bb := inB k
      have HSA := Lib.hid (take_sum_succ LA k)
      have HSB := Lib.hid (take_sum_succ LB k)
      generalize LA[k]?.getD 0 = xa at *
      generalize LB[k]?.getD 0 = xb at *
      have w1 : IntKind.i64.wrap (xa + xb) = xa + xb := IntWalk.i64_in _ (by omega)
      have w2 : IntKind.i64.wrap (z + (xa + xb)) = z + (xa + xb) := IntWalk.i64_in _ (by omega)
      have t2 : (0 : Int) ≤ (k : Int) := by omega
      have t3 : (k : Int) < (ks.length : Int) := by omega
      go_upto_region 12 with (fail)
      go_quiet (fail)
      go_wp2_with fail
      go_roundw
      case rel => exact ⟨k + 1, z + (xa + xb), by omega, rfl, by go_num, Lib.hid (by rw [HSA.out, HSB.out, HZ.out]; omega), by (repeat (first | exact Below.refl _ _ | assumption | refine below_alloc ?_ _ | refine Below.drew ?_ | refine below_drewN_ ?_ _ | refine below_step ?_ (by assumption)))⟩
      case measure => simp [intOf]; omega
    · obtain rfl : k = ks.length := by omega
      have t1 : decide (ks.length < ks.length) = false := by simp
      have t1' : decide ((ks.length : Int) < (ks.length : Int)) = false := by simp
      have HZ2 := Lib.hid (show z = LA.sum + LB.sum by
        have := HZ.out
        rwa [List.take_of_length_le (by rw [HLA.out]; exact Nat.le_refl _), List.take_of_length_le (by rw [HLB.out]; exact Nat.le_refl _)] at this)
      have p0 := bx_cell ((hb.block pb hpl7).trans HP7.out) 0 rfl
      go_wp2_with fail
      clear p0 t1 t1' HZ
      go_loopw [12, 14] (fun v i wr => ∃ (k : Nat) (z2 : Int), k ≤ p.cells.length ∧ v = .int .i64 z2 ∧ i = .int .i64 k ∧ Hid (z2 = z + ((p.cells.take k).countP (fun x => decide (x = 0)) : Nat)) ∧ Below w7.heap.size w7 wr) (fun _ i _ => p.cells.length - (intOf i).toNat)
      case atStart => exact ⟨0, z, Nat.zero_le _, rfl, rfl, Lib.hid (by simp), hb⟩
      case round =>
        clear hb
        obtain ⟨k, z2, hk, rfl, rfl, HZ3, hb⟩ := hrel
        generalize wr = w9 at *
        have hP9 := (hb.block pb hpl7).trans HP7.out
        have p0 := bx_cell hP9 0 rfl
        have hzc : z ≤ z2 ∧ z2 ≤ z + 9 := by
          have h1 := List.countP_le_length (p := fun x => decide (x = 0)) (l := p.cells.take k)
          rw [List.length_take] at h1
          rw [HZ3.out]; omega
        by_cases hlt : k < p.cells.length
        · skip
          have t1 : decide (k < p.cells.length) = true := by simpa using hlt
          have t1' : decide ((k : Int) < (p.cells.length : Int)) = true := by simpa using hlt
          obtain ⟨zc, fz⟩ := (HPO.out.cells.up2 hb).cellAt (j := k) hlt
          have HSC := Lib.hid (countP_take_succ (fun x => decide (x = 0)) p.cells hlt)
          generalize p.cells[k]?.getD 0 = xv at *
          have t2 : (0 : Int) ≤ (k : Int) := by omega
          have t3 : (k : Int) < (p.cells.length : Int) := by omega
          have w1 : IntKind.i64.wrap (z2 + 1) = z2 + 1 := IntWalk.i64_in _ (by omega)
          by_cases hx : xv = 0
          · subst hx
            go_wp2_with fail
            go_roundw
            case rel => exact ⟨k + 1, z2 + 1, by omega, rfl, by go_num, Lib.hid (by rw [HSC.out, HZ3.out]; simp; omega), by (repeat (first | exact Below.refl _ _ | assumption | refine below_alloc ?_ _ | refine Below.drew ?_ | refine below_drewN_ ?_ _ | refine below_step ?_ (by assumption)))⟩
            case measure => simp [intOf]; omega
          · have d1 : (xv == 0) = false := by simpa using hx
            have HX := Lib.hid hx
            clear hx
            go_wp2_with fail
            go_roundw
            case rel => exact ⟨k + 1, z2, by omega, rfl, by go_num, Lib.hid (by rw [HSC.out, HZ3.out]; simp [HX.out]), by (repeat (first | exact Below.refl _ _ | assumption | refine below_alloc ?_ _ | refine Below.drew ?_ | refine below_drewN_ ?_ _ | refine below_step ?_ (by assumption)))⟩
            case measure => simp [intOf]; omega
        · obtain rfl : k = p.cells.length := by omega
          have t1 : decide (p.cells.length < p.cells.length) = false := by simp
          have t1' : decide ((p.cells.length : Int) < (p.cells.length : Int)) = false := by simp
          obtain rfl : z2 = (bc : Int) := by
            have h1 := HZ3.out
            have h2 := HTOT.out
            have h3 := HZ2.out
            have h4 := HPL.out
            rw [List.take_of_length_le (Nat.le_refl _)] at h1
            omega
          have hG9 := (hb.block gb hgl).trans HG7.out
          have hV9 := (hb.block _ hvl).trans HV7.out
          have g3 := bx_cell hG9 3 rfl
          have y0 := bx_cell hV9 0 rfl
          have y1 := bx_cell hV9 1 rfl
          obtain ⟨zc, fz⟩ := (HPO.out.cells.up2 hb).cellAt (j := ic) l1
          have H00 := Lib.hid (fun (h : p.cells[ic]?.getD 0 = 0) => h)
          obtain ⟨xv, hxv⟩ : ∃ xv, p.cells[ic]?.getD 0 = xv := ⟨_, rfl⟩
          rw [hxv] at zc
          have HXV := Lib.hid hxv
          have t2 : (0 : Int) ≤ (ic : Int) := by omega
          have t3 : (ic : Int) < (p.cells.length : Int) := by omega
          clear hxv HZ3 HZ2 hzb hzc HTOT H00
          by_cases hx : xv = 0
          · subst hx
            go_upto_region 23 with (fail)
            clear fz zc g3 y0 y1 hV9 t1 t1' p0
            have hPO9 := HPO.out.up hb
            have p0 := bx_cell hP9 0 rfl
            have p1 := bx_cell hP9 1 rfl
            have p2 := bx_cell hP9 2 rfl
            have p3 := bx_cell hP9 3 rfl
            have p4 := bx_cell hP9 4 rfl
            go_upto_region 24 with (fail)
            clear p0 p1 p2 p3 p4
            have hQq : (w9.alloc (.cells #[.slice (some ⟨A, 0, none⟩) p.cells.length c, .slice (some ⟨B0, 0, none⟩) p.h0.length c0, .slice (some ⟨B1, 0, none⟩) p.h1.length c1, .int .i64 p.rights, .int .i64 p.side] 32)).heap[w9.heap.size]? = some (.cells #[.slice (some ⟨A, 0, none⟩) p.cells.length c, .slice (some ⟨B0, 0, none⟩) p.h0.length c0, .slice (some ⟨B1, 0, none⟩) p.h1.length c1, .int .i64 p.rights, .int .i64 p.side] 32 (0, 0)) := World.alloc_heap_new _ _
            have hb9q := below_alloc (Below.refl _ w9) (.cells #[.slice (some ⟨A, 0, none⟩) p.cells.length c, .slice (some ⟨B0, 0, none⟩) p.h0.length c0, .slice (some ⟨B1, 0, none⟩) p.h1.length c1, .int .i64 p.rights, .int .i64 p.side] 32)
            have hPOq := hPO9.up hb9q
            have hPq := (hb9q.block _ (bx_lt hP9)).trans hP9
            have hgq := bx_lt hG9
            have hpq := bx_lt hP9
            have h7q := hb.size
            generalize w9.alloc (.cells #[.slice (some ⟨A, 0, none⟩) p.cells.length c, .slice (some ⟨B0, 0, none⟩) p.h0.length c0, .slice (some ⟨B1, 0, none⟩) p.h1.length c1, .int .i64 p.rights, .int .i64 p.side] 32) = wq at *
            generalize w9.heap.size = qb at *
            have hql := bx_lt hQq
            have p0 : (wq.alloc (.cells #[] 3)).cell? ⟨pb, 0, none⟩ = some (.slice (some ⟨A, 0, none⟩) p.cells.length c) := cell_alloc_keep (bx_cell hPq 0 rfl) _
            have hpl9 := bx_lt hPq
            have HCA := Lib.hid (fun j hj => ((hPOq.cells.up2 (below_alloc (Below.refl _ wq) (.cells #[] 3))).cellAt (j := j) hj).1)
            go_upto_region 25 with (at_builtin; go_loud (refine wpList_pushAll rfl (.tmp 116) (.tmp 118) rfl wq.heap.size wq.heap.size rfl (own_empty wq) (by simp) A p.cells c rfl (by omega) (by omega) HCA.out ?_; intro g7 cap7 w10 hown7 hg7 hor7; have hQ10 := (hg7.block qb (by rw [World.size_alloc]; omega) (fun e => by have := Option.some.inj e; omega)).trans (hp_old_at hQq); have z1 := bx_cell hQ10 0 rfl; have z2 := bx_frozen hQ10 0; clear hQ10))
            clear p0
            have hb10 : Below wq.heap.size wq w10 := (below_alloc (Below.refl _ wq) (.cells #[] 3)).trans ((Alters.of_grown hg7).below (by rw [World.size_alloc]; omega) (fun k (hk : some k = some wq.heap.size) => by have := Option.some.inj hk; omega))
            have hQ11 : (w10.setCell ⟨qb, 0, none⟩ (.slice (some ⟨g7, 0, none⟩) p.cells.length cap7)).heap[qb]? = some (.cells #[.slice (some ⟨g7, 0, none⟩) p.cells.length cap7, .slice (some ⟨B0, 0, none⟩) p.h0.length c0, .slice (some ⟨B1, 0, none⟩) p.h1.length c1, .int .i64 p.rights, .int .i64 p.side] 32 (0, 0)) := bx_set ((hb10.block qb hql).trans hQq) 0 (.slice (some ⟨g7, 0, none⟩) p.cells.length cap7)
            have al11 := alters_cell w10 qb 0 (.slice (some ⟨g7, 0, none⟩) p.cells.length cap7)
            have hlg := own_lt hown7
            have hO11 := own_alt hown7 al11 (by omega)
            have hs10 := hb10.size
            have hb911 : Below qb w9 (w10.setCell ⟨qb, 0, none⟩ (.slice (some ⟨g7, 0, none⟩) p.cells.length cap7)) := hb9q.trans ((hb10.mono (by omega)).trans (al11.below (by omega) (fun k hk => by omega)))
            clear hb10 hown7 hg7 al11 hQq hPq hPOq HCA
            generalize w10.setCell ⟨qb, 0, none⟩ (.slice (some ⟨g7, 0, none⟩) p.cells.length cap7) = w11 at *
            have q0 := bx_cell hQ11 0 rfl
            obtain ⟨za, fa⟩ := hO11.cellAt (j := ic) l1
            have hn9 : ¬ g7 = qb := by omega
            go_upto_block 4 with (fail)
            have hQ12 := ((alters_cell w11 g7 ic (.int .i64 (1 + 2 * (kd : Int) + (sd : Int)))).block qb (bx_lt hQ11) (fun e => hn9 e.symm)).trans hQ11
            have hO12 := hO11.set ic (1 + 2 * (kd : Int) + (sd : Int))
            have hl11 := bx_lt hQ11
            have hb912 : Below qb w9 (w11.setCell ⟨g7, ic, none⟩ (.int .i64 (1 + 2 * (kd : Int) + (sd : Int)))) := hb911.trans ((alters_cell w11 g7 ic (.int .i64 (1 + 2 * (kd : Int) + (sd : Int)))).below (by omega) (fun k hk => by omega))
            clear q0 za fa hb911 hQ11 hO11
            generalize w11.setCell ⟨g7, ic, none⟩ (.int .i64 (1 + 2 * (kd : Int) + (sd : Int))) = w12 at *
            have hb712 := hb.trans (hb912.mono h7q)
            have hPI12 := HPW.out w12 hb712
            have HG12 := Lib.hid ((hb912.block gb hgq).trans hG9)
            have HP12 := Lib.hid ((hb912.block pb hpq).trans hP9)
            have HQ12 := Lib.hid hQ12
            have hs12 := bx_lt hQ12
            have h512 := hb712.size
            obtain ⟨q, hq⟩ : ∃ q : PosS, q = { p with cells := p.cells.set ic (1 + 2 * (kd : Int) + (sd : Int)) } := ⟨_, rfl⟩
            have hq0 : q.cells = p.cells.set ic (1 + 2 * (kd : Int) + (sd : Int)) := by rw [hq]
            have hq1 : q.h0 = p.h0 ∧ q.h1 = p.h1 ∧ q.rights = p.rights ∧ q.side = p.side := by rw [hq]; exact ⟨rfl, rfl, rfl, rfl⟩
            have hql2 : q.cells.length = p.cells.length := by rw [hq0, List.length_set]
            have hQI : PosIn w12.heap.size w12 (some ⟨g7, 0, none⟩) (some ⟨B0, 0, none⟩) (some ⟨B1, 0, none⟩) q := by
              refine ⟨?_, ?_, ?_⟩
              · rw [hq0]; exact own_ints hO12
              · rw [hq1.1]; exact hPI12.h0.mono (by omega)
              · rw [hq1.2.1]; exact hPI12.h1.mono (by omega)
            have hQF : PosFit q := by
              refine ⟨?_, ?_, ?_⟩
              · rw [hql2]; exact HPG.fit.cells
              · rw [hq1.1]; exact HPG.fit.h0
              · rw [hq1.2.1]; exact HPG.fit.h1
            have HCq := Lib.hid (fun W (side : Int) (h : Below w12.heap.size w12 W) => count_some ks.length side (.int .i64 (bc : Int)) (.slice an ln cn) (.slice at_ lt ct) (.int .i64 (r : Int)) (.bool mu) (.slice ac lc cc) (.int .i64 bl) (.int .i64 en) q ak (some ⟨g7, 0, none⟩) (some ⟨B0, 0, none⟩) (some ⟨B1, 0, none⟩) ck cap7 c0 c1 _ W hks.1 (by omega) hQF h.size (hQI.up (Nat.le_refl _) h))
            rw [hql2, hq1.1, hq1.2.1, hq1.2.2.1, hq1.2.2.2, hq0] at HCq
            have HCp := Lib.hid (fun W (side : Int) (hW : Below w12.heap.size w12 W) => HC7.out W side (below_step hb712 hW))
            have HPUT := Lib.hid (fun (s k : Nat) (hk : k < ks.length) => count_put (nk := ks.length) (l := p.cells) (s := s) (side := sd) (kind := kd) l1 HXV.out rfl l4 (by omega) hk)
            have HINP := Lib.hid (fun (s : Int) => countTo_in s hc9 ks.length)
            have HIQ : (Tryz.prog.info? 32).map (·.size) = some (#[.slice (some ⟨g7, 0, none⟩) p.cells.length cap7, .slice (some ⟨B0, 0, none⟩) p.h0.length c0, .slice (some ⟨B1, 0, none⟩) p.h1.length c1, .int .i64 p.rights, .int .i64 p.side] : Array Value).size := info_pos8
            have HLP := Lib.hid (fun (s : Int) => countTo_len ks.length s p.cells)
            have HLQ := Lib.hid (fun (s : Int) => countTo_len ks.length s (p.cells.set ic (1 + 2 * (kd : Int) + (sd : Int))))
            generalize p.cells.set ic (1 + 2 * (kd : Int) + (sd : Int)) = qc at *
            have HBW12 := Lib.hid (HBW.out.trans (hb712.mono HBW.out.size))
            clear hq hq0 hq1 hql2 hQI hQF hPI12 hO12 hQ12 hb712 hb912 hb hP9 hG9 hPO9 hb9q HXV HC HC7 HPW e1 e2 e3 e4 i1 i2 i3 i4 i5 i6 i7 j1 j2 j3 n1 n2 n3 n4 n5 n6 inA inB
            go_wp2_with fail
            go_loopw [19] (fun i wr => ∃ s : Nat, s ≤ 2 ∧ i = .int .i64 s ∧ Below w12.heap.size w12 wr) (fun i _ => 2 - (intOf i).toNat)
            case atStart => exact ⟨0, by omega, rfl, Below.refl _ _⟩
            case round =>
              obtain ⟨s, hs, rfl, hb⟩ := hrel
              generalize wr = w13 at *
              by_cases hlt2 : s < 2
              · have t1 : decide ((s : Int) < 2) = true := by simp; omega
                have hG13 := (hb.block gb (by omega)).trans HG12.out
                have hP13 := (hb.block pb (by omega)).trans HP12.out
                go_wp2_with (first | (with_reducible refine wpList_load_row rfl 41 (.tmp 8) rfl gb rfl 41 _ (0, 0) _ hG13 Tryz.underlying41 rfl HIG ?_) | (with_reducible refine wpList_load_row rfl 32 (.tmp 9) rfl pb rfl 32 _ (0, 0) _ hP13 Tryz.underlying32 rfl HIP ?_))
                refine (HCp.out w13 (s : Int) hb).mono ?_
                rintro e w14 ⟨g3, k3, rfl, hO3, hb34⟩
                have hb14 := below_step hb hb34
                have hG14 := (hb14.block gb (by omega)).trans HG12.out
                have hQ14 := (hb14.block qb (by omega)).trans HQ12.out
                clear hG13 hP13
                go_wp2_with (first | (with_reducible refine wpList_load_row rfl 41 (.tmp 8) rfl gb rfl 41 _ (0, 0) _ hG14 Tryz.underlying41 rfl HIG ?_) | (with_reducible refine wpList_load_row rfl 32 (.tmp 18) rfl qb rfl 32 _ (0, 0) _ hQ14 Tryz.underlying32 rfl HIQ ?_))
                refine (HCq.out w14 (s : Int) hb14).mono ?_
                rintro e w15 ⟨g4, k4, rfl, hO4, hb45⟩
                have hb15 := below_step hb14 hb45
                have HO3 := Lib.hid (hO3.up2 hb45)
                have HO4 := Lib.hid hO4
                have HPT := Lib.hid (fun k hk => HPUT.out s k hk)
                have HIN := Lib.hid (HINP.out (s : Int))
                have HL3 := Lib.hid (HLP.out (s : Int))
                have HL4 := Lib.hid (HLQ.out (s : Int))
                clear hO3 hO4 hG14 hQ14 hb34 hb45 hb14 t1
                generalize countTo ks.length (s : Int) p.cells = L3 at *
                generalize countTo ks.length (s : Int) qc = L4 at *
                have HB15 := Lib.hid hb15
                clear hb15 hb
                go_wp2_with fail
                go_loopw [22] (fun i wr => ∃ k : Nat, k ≤ ks.length ∧ i = .int .i64 k ∧ Below w15.heap.size w15 wr) (fun i _ => ks.length - (intOf i).toNat)
                case atStart => exact ⟨0, Nat.zero_le _, rfl, Below.refl _ _⟩
                case round =>
                  obtain ⟨k, hk, rfl, hb⟩ := hrel
                  generalize wr = w16 at *
                  by_cases hlt : k < ks.length
                  · skip
                    have t1 : decide (k < ks.length) = true := by simpa using hlt
                    have t1' : decide ((k : Int) < (ks.length : Int)) = true := by simpa using hlt
                    have t2 : (0 : Int) ≤ (k : Int) := by omega
                    have t3 : (k : Int) < (ks.length : Int) := by omega
                    obtain ⟨za, fa⟩ := (HO3.out.up2 hb).cellAt (j := k) (by rw [HL3.out]; exact hlt)
                    obtain ⟨zb, fb⟩ := (HO4.out.up2 hb).cellAt (j := k) (by rw [HL4.out]; exact hlt)
                    have hpt := HPT.out k hlt
                    have hin3 := HIN.out k
                    generalize L3[k]?.getD 0 = x3 at *
                    generalize L4[k]?.getD 0 = x4 at *
                    have hbD : Below w15.heap.size w15 w16.drew := hb.drew
                    by_cases he : s = sd ∧ k = kd
                    · rw [if_pos he] at hpt
                      obtain ⟨rfl, rfl⟩ := he
                      have d1 : ((s : Int) == (s : Int)) = true := by simp
                      have d2 : ((k : Int) == (k : Int)) = true := by simp
                      have w1 : IntKind.i64.wrap (x3 + 1) = x3 + 1 := IntWalk.i64_in _ (by omega)
                      subst hpt
                      go_wp2_with fail
                      go_quiet (fail)
                      go_wp2
                      go_roundw
                      case rel => exact ⟨k + 1, by omega, by go_num, by (repeat (first | exact Below.refl _ _ | assumption | refine below_alloc ?_ _ | refine Below.drew ?_ | refine below_drewN_ ?_ _ | refine below_step ?_ (by assumption)))⟩
                      case measure => simp [intOf]; omega
                    · rw [if_neg he] at hpt
                      have w1 : IntKind.i64.wrap (x3 + 0) = x3 + 0 := IntWalk.i64_in _ (by omega)
                      have w2 : IntKind.i64.wrap x3 = x3 := IntWalk.i64_in _ (by omega)
                      have hpt2 : x4 = x3 := by omega
                      subst hpt2
                      clear hpt
                      by_cases hs2 : s = sd
                      · have d1 : ((s : Int) == (sd : Int)) = true := by rw [beq_iff_eq]; omega
                        have d2 : ((k : Int) == (kd : Int)) = false := by rw [beq_eq_false_iff_ne]; intro h; exact he ⟨hs2, by omega⟩
                        clear he hs2
                        go_wp2_with fail
                        go_quiet (fail)
                        go_wp2
                        go_roundw
                        case rel => exact ⟨k + 1, by omega, by go_num, by (repeat (first | exact Below.refl _ _ | assumption | refine below_alloc ?_ _ | refine Below.drew ?_ | refine below_drewN_ ?_ _ | refine below_step ?_ (by assumption)))⟩
                        case measure => simp [intOf]; omega
                      · have d1 : ((s : Int) == (sd : Int)) = false := by rw [beq_eq_false_iff_ne]; omega
                        clear he hs2
                        go_wp2_with fail
                        go_quiet (fail)
                        go_wp2
                        go_roundw
                        case rel => exact ⟨k + 1, by omega, by go_num, by (repeat (first | exact Below.refl _ _ | assumption | refine below_alloc ?_ _ | refine Below.drew ?_ | refine below_drewN_ ?_ _ | refine below_step ?_ (by assumption)))⟩
                        case measure => simp [intOf]; omega
                  · obtain rfl : k = ks.length := by omega
                    have t1 : decide (ks.length < ks.length) = false := by simp
                    have t1' : decide ((ks.length : Int) < (ks.length : Int)) = false := by simp
                    have HBX := Lib.hid (below_step HB15.out hb)
                    clear hb
                    go_wp2_with fail
                    go_roundw
                    case rel => exact ⟨s + 1, by omega, by go_num, HBX.out⟩
                    case measure => simp [intOf]; omega
              · obtain rfl : s = 2 := by omega
                have t1 : decide ((2 : Int) < 2) = false := by simp
                have g0 := bx_cell ((hb.block gb (by omega)).trans HG12.out) 0 rfl
                have HBE := Lib.hid (below_step HBW12.out hb)
                clear hb
                go_wp2
                go_ret
                exact ⟨by simp, HBE.out⟩
          · skip
            have d1 : (xv == 0) = false := by simpa using hx
            have d2 : (xv != 0) = true := by simpa using hx
            have g0 := bx_cell hG9 0 rfl
            have HBE := Lib.hid (HBW.out.trans (hb.mono HBW.out.size))
            clear hb hx hG9 hV9 hP9
            go_wp2
            go_ret
            exact ⟨by simp, HBE.out⟩
end Go.Proofs.YtphhkfelpckilaaGreatDoor
