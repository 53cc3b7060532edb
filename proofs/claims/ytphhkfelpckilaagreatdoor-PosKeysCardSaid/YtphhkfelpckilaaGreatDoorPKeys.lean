/-
  PosKeys returns true, given that the examples do.
-/

import Derived.Test.YtphhkfelpckilaaGreatDoorGGame
import Derived.Test.YtphhkfelpckilaaGreatDoorGPos
import Derived.Test.YtphhkfelpckilaaGreatDoorDEq
import Derived.Test.YtphhkfelpckilaaGreatDoorGVals
import Derived.Laws.Cover1
import Derived.Test.YtphhkfelpckilaaGreatDoorDParse
namespace Go.Proofs.YtphhkfelpckilaaGreatDoor
open Go Go.RowKit

theorem lib_data (l : List UInt8) : (⟨l.toArray⟩ : ByteArray).toList = l := by rw [Lib.toList_data]
set_option maxRecDepth 100000 in
set_option maxHeartbeats 4000000 in
theorem pkeys_any (Lib4 : World → Prop) (hS : ∀ W, Lib4 W → Calls Tryz.prog 12 #[] W fun e w' => e = .returned (.bool true) ∧ Below W.heap.size W w')
    (hUp : ∀ W W', Lib4 W → Below W.heap.size W W' → Lib4 W')
    (x : GRaw) (a0 a1 a2 : Option Addr) (c0 c1 c2 N : Nat) (y z : PRaw) (w : World) (hL : Lib4 w) (hy : y.Ok) (hz : z.Ok) (hN : N ≤ w.heap.size) (hI : GRawIn N w a0 a1 a2 x) :
    Calls Tryz.prog 8 #[.agg (x.cells a0 a1 a2 c0 c1 c2), .agg y.cells, .agg z.cells] w fun e w' => e = .returned (.bool true) ∧ Below w.heap.size w w' := by
  have HMG := Lib.hid (fun W h => made_game x a0 a1 a2 c0 c1 c2 N W h)
  have hsx : (x.cells a0 a1 a2 c0 c1 c2).size = 12 := rfl
  have hsy : y.cells.size = 18 := rfl
  have hsz : z.cells.size = 18 := rfl
  have HMY := Lib.hid (fun bc r ks vn vt vm vc vb ve ak ck N W h1 h2 h3 h5 h6 => made_pos bc r ks vn vt vm vc vb ve ak ck N y W h1 h2 h3 hy h5 h6)
  have HMZ := Lib.hid (fun bc r ks vn vt vm vc vb ve ak ck N W h1 h2 h3 h5 h6 => made_pos bc r ks vn vt vm vc vb ve ak ck N z W h1 h2 h3 hz h5 h6)
  generalize x.cells a0 a1 a2 c0 c1 c2 = xs at *
  generalize y.cells = ys at *
  generalize z.cells = zs at *
  go_enter Tryz.func8, Tryz.ntmps8
  go_upto_region 1 with (fail)
  have hb0 : Below w.heap.size w (((w.alloc (.cells xs 27)).alloc (.cells ys 61)).alloc (.cells zs 61)) := below_alloc (below_alloc (below_alloc (Below.refl _ _) _) _) _
  have hX0 : (((w.alloc (.cells xs 27)).alloc (.cells ys 61)).alloc (.cells zs 61)).heap[w.heap.size]? = some (.cells xs 27 (0, 0)) := hp_old_at (hp_old_at (World.alloc_heap_new _ _))
  have hY0 : (((w.alloc (.cells xs 27)).alloc (.cells ys 61)).alloc (.cells zs 61)).heap[w.heap.size + 1]? = some (.cells ys 61 (0, 0)) := hp_old_at (hp_new_at _ _ (by simp))
  have hZ0 : (((w.alloc (.cells xs 27)).alloc (.cells ys 61)).alloc (.cells zs 61)).heap[w.heap.size + 1 + 1]? = some (.cells zs 61 (0, 0)) := hp_new_at _ _ (by simp)
  generalize ((w.alloc (.cells xs 27)).alloc (.cells ys 61)).alloc (.cells zs 61) = w0 at *
  go_wp2_with fail
  refine (hS w0 (hUp _ _ hL hb0)).mono ?_
  rintro e w1 ⟨rfl, hb1⟩
  have hX1 := (hb1.block _ (bx_lt hX0)).trans hX0
  have hY1 := (hb1.block _ (bx_lt hY0)).trans hY0
  have hZ1 := (hb1.block _ (bx_lt hZ0)).trans hZ0
  have hbw1 := below_step hb0 hb1
  have hI1 := hI.up hN hbw1
  have hN1 := Nat.le_trans hN hbw1.size
  clear hX0 hY0 hZ0 hb0 hb1 hS hUp hL hI hN
  go_wp2_with (with_reducible refine wpList_load_row rfl 27 (.tmp 3) rfl w.heap.size rfl 27 xs (0, 0) _ hX1 Tryz.underlying27 rfl (by rw [hsx]; exact info_raw3) ?_)
  refine (HMG.out _ hN1 hI1).mono ?_
  rintro e w2 ⟨bc, r, ks, an, at_, ak, ac, ln, cn, lt, ct, ck, lc, cc, mu, bl, en, rfl, hK, hbc, hr, hks, hb2⟩
  have hY2 := (hb2.block _ (bx_lt hY1)).trans hY1
  have hZ2 := (hb2.block _ (bx_lt hZ1)).trans hZ1
  have hbw2 := below_step hbw1 hb2
  clear hX1 hY1 hZ1 hb2 hI1 HMG hbw1 hN1
  go_upto_region 3 with (fail)
  have hG3 : (w2.alloc (.cells #[.int .i64 (bc : Int), .slice an ln cn, .slice at_ lt ct, .slice ak ks.length ck, .int .i64 (r : Int), .bool mu, .slice ac lc cc, .int .i64 bl, .int .i64 en] 41)).heap[w2.heap.size]? = some (.cells #[.int .i64 (bc : Int), .slice an ln cn, .slice at_ lt ct, .slice ak ks.length ck, .int .i64 (r : Int), .bool mu, .slice ac lc cc, .int .i64 bl, .int .i64 en] 41 (0, 0)) := World.alloc_heap_new _ _
  have hb23 := below_alloc (Below.refl _ w2) (.cells #[.int .i64 (bc : Int), .slice an ln cn, .slice at_ lt ct, .slice ak ks.length ck, .int .i64 (r : Int), .bool mu, .slice ac lc cc, .int .i64 bl, .int .i64 en] 41)
  have hY3 := (hb23.block _ (bx_lt hY2)).trans hY2
  have hZ3 := (hb23.block _ (bx_lt hZ2)).trans hZ2
  have hK3 := hK.below hb23
  have hbw3 := below_step hbw2 hb23
  have hN3 := hb23.size
  generalize (w2.alloc (.cells #[.int .i64 (bc : Int), .slice an ln cn, .slice at_ lt ct, .slice ak ks.length ck, .int .i64 (r : Int), .bool mu, .slice ac lc cc, .int .i64 bl, .int .i64 en] 41)) = w3 at *
  generalize w2.heap.size = gb at *
  have HIG : (Tryz.prog.info? 41).map (·.size) = some (#[.int .i64 (bc : Int), .slice an ln cn, .slice at_ lt ct, .slice ak ks.length ck, .int .i64 (r : Int), .bool mu, .slice ac lc cc, .int .i64 bl, .int .i64 en] : Array Value).size := info_game9
  clear hY2 hZ2 hK hb23 hbw2
  go_wp2_with (first | (with_reducible refine wpList_load_row rfl 41 (.tmp 8) rfl gb rfl 41 _ (0, 0) _ hG3 Tryz.underlying41 rfl HIG ?_) | (with_reducible refine wpList_load_row rfl 61 (.tmp 4) rfl (w.heap.size + 1) rfl 61 ys (0, 0) _ hY3 Tryz.underlying61 rfl (by rw [hsy]; exact info_raw4) ?_))
  refine (HMY.out bc r ks _ _ _ _ _ _ ak ck gb w3 hbc hr hks hN3 hK3).mono ?_
  rintro e w4 ⟨p, A, B0, B1, c, c0, c1, rfl, hPO, -, hPG, -, hb34⟩
  have hG4 := (hb34.block _ (bx_lt hG3)).trans hG3
  have hZ4 := (hb34.block _ (bx_lt hZ3)).trans hZ3
  have hbw4 := below_step hbw3 hb34
  have hN4 := Nat.le_trans hN3 hb34.size
  have hK4 := hK3.below (hb34.mono hN3)
  clear hY3 hG3 hZ3 hbw3 hN3 hK3 hb34
  go_upto_region 4 with (fail)
  have hP5 : (w4.alloc (.cells #[.slice (some ⟨A, 0, none⟩) p.cells.length c, .slice (some ⟨B0, 0, none⟩) p.h0.length c0, .slice (some ⟨B1, 0, none⟩) p.h1.length c1, .int .i64 p.rights, .int .i64 p.side] 32)).heap[w4.heap.size]? = some (.cells #[.slice (some ⟨A, 0, none⟩) p.cells.length c, .slice (some ⟨B0, 0, none⟩) p.h0.length c0, .slice (some ⟨B1, 0, none⟩) p.h1.length c1, .int .i64 p.rights, .int .i64 p.side] 32 (0, 0)) := World.alloc_heap_new _ _
  have hb45 := below_alloc (Below.refl _ w4) (.cells #[.slice (some ⟨A, 0, none⟩) p.cells.length c, .slice (some ⟨B0, 0, none⟩) p.h0.length c0, .slice (some ⟨B1, 0, none⟩) p.h1.length c1, .int .i64 p.rights, .int .i64 p.side] 32)
  have hG5 := (hb45.block _ (bx_lt hG4)).trans hG4
  have hZ5 := (hb45.block _ (bx_lt hZ4)).trans hZ4
  have hK5 := hK4.below (hb45.mono hN4)
  have hN5 := Nat.le_trans hN4 hb45.size
  have hbw5 := below_step hbw4 hb45
  have hPI5 := hPO.in_.to hb45 (Nat.le_refl _) hb45.size
  generalize w4.alloc (.cells #[.slice (some ⟨A, 0, none⟩) p.cells.length c, .slice (some ⟨B0, 0, none⟩) p.h0.length c0, .slice (some ⟨B1, 0, none⟩) p.h1.length c1, .int .i64 p.rights, .int .i64 p.side] 32) = w5 at *
  generalize w4.heap.size = pb at *
  clear hG4 hZ4 hK4 hbw4 hPO hb45 hN4
  go_wp2_with (first | (with_reducible refine wpList_load_row rfl 41 (.tmp 8) rfl gb rfl 41 _ (0, 0) _ hG5 Tryz.underlying41 rfl HIG ?_) | (with_reducible refine wpList_load_row rfl 61 (.tmp 5) rfl (w.heap.size + 1 + 1) rfl 61 zs (0, 0) _ hZ5 Tryz.underlying61 rfl (by rw [hsz]; exact info_raw4) ?_))
  refine (HMZ.out bc r ks _ _ _ _ _ _ ak ck gb w5 hbc hr hks hN5 hK5).mono ?_
  rintro e w6 ⟨q, A2, B2, B3, d, d0, d1, rfl, hQO, -, hQG, -, hb56⟩
  have hG6 := (hb56.block _ (bx_lt hG5)).trans hG5
  have hP6 := (hb56.block _ (bx_lt hP5)).trans hP5
  have hbw6 := below_step hbw5 hb56
  have hPI6 := hPI5.to hb56 (Nat.le_refl _) hb56.size
  clear hZ5 hG5 hP5 hbw5 hK5 hPI5 hb56
  go_upto_region 5 with (fail)
  have hQ7 : (w6.alloc (.cells #[.slice (some ⟨A2, 0, none⟩) q.cells.length d, .slice (some ⟨B2, 0, none⟩) q.h0.length d0, .slice (some ⟨B3, 0, none⟩) q.h1.length d1, .int .i64 q.rights, .int .i64 q.side] 32)).heap[w6.heap.size]? = some (.cells #[.slice (some ⟨A2, 0, none⟩) q.cells.length d, .slice (some ⟨B2, 0, none⟩) q.h0.length d0, .slice (some ⟨B3, 0, none⟩) q.h1.length d1, .int .i64 q.rights, .int .i64 q.side] 32 (0, 0)) := World.alloc_heap_new _ _
  have hb67 := below_alloc (Below.refl _ w6) (.cells #[.slice (some ⟨A2, 0, none⟩) q.cells.length d, .slice (some ⟨B2, 0, none⟩) q.h0.length d0, .slice (some ⟨B3, 0, none⟩) q.h1.length d1, .int .i64 q.rights, .int .i64 q.side] 32)
  have hG7 := (hb67.block _ (bx_lt hG6)).trans hG6
  have hP7 := (hb67.block _ (bx_lt hP6)).trans hP6
  have hbw7 := below_step hbw6 hb67
  have hPI7 := hPI6.to hb67 (Nat.le_refl _) hb67.size
  have hQI7 := hQO.in_.to hb67 (Nat.le_refl _) hb67.size
  generalize w6.alloc (.cells #[.slice (some ⟨A2, 0, none⟩) q.cells.length d, .slice (some ⟨B2, 0, none⟩) q.h0.length d0, .slice (some ⟨B3, 0, none⟩) q.h1.length d1, .int .i64 q.rights, .int .i64 q.side] 32) = w7 at *
  generalize w6.heap.size = qb at *
  clear hG6 hP6 hbw6 hPI6 hQO hb67 HMY HMZ hsx hsy hsz hy hz HIG
  have hgl := bx_lt hG7
  have hpl := bx_lt hP7
  have hql := bx_lt hQ7
  have KP := Lib.hid (fun W (h : Below w7.heap.size w7 W) => key_any p (some ⟨A, 0, none⟩) (some ⟨B0, 0, none⟩) (some ⟨B1, 0, none⟩) c c0 c1 _ W (by have := hPG.small; have := this.cells; have := hPG.small.h0; have := hPG.small.h1; omega) h.size (hPI7.up (Nat.le_refl _) h))
  have KQ := Lib.hid (fun W (h : Below w7.heap.size w7 W) => key_any q (some ⟨A2, 0, none⟩) (some ⟨B2, 0, none⟩) (some ⟨B3, 0, none⟩) d d0 d1 _ W (by have := hQG.small; have := this.cells; have := hQG.small.h0; have := hQG.small.h1; omega) h.size (hQI7.up (Nat.le_refl _) h))
  have KE := Lib.hid (fun W (h : Below w7.heap.size w7 W) => equal_any p q (some ⟨A, 0, none⟩) (some ⟨B0, 0, none⟩) (some ⟨B1, 0, none⟩) (some ⟨A2, 0, none⟩) (some ⟨B2, 0, none⟩) (some ⟨B3, 0, none⟩) c c0 c1 d d0 d1 _ W hPG.fit h.size (hPI7.up (Nat.le_refl _) h) (hQI7.up (Nat.le_refl _) h))
  have KC := Lib.hid (fun W (h : Below w7.heap.size w7 W) => compare_any p q (some ⟨A, 0, none⟩) (some ⟨B0, 0, none⟩) (some ⟨B1, 0, none⟩) (some ⟨A2, 0, none⟩) (some ⟨B2, 0, none⟩) (some ⟨B3, 0, none⟩) c c0 c1 d d0 d1 _ W hPG.fit h.size (hPI7.up (Nat.le_refl _) h) (hQI7.up (Nat.le_refl _) h))
  rw [eqB_iff] at KE
  have e1 : p.cells.length = q.cells.length := by rw [hPG.all.len, hQG.all.len]
  have e2 : p.h0.length = q.h0.length := by rw [hPG.l0, hQG.l0]
  have e3 : p.h1.length = q.h1.length := by rw [hPG.l1, hQG.l1]
  have hlt := key_less hPG.bys hQG.bys e1 e2 e3
  have heq : ((keyS p == keyS q) : Bool) = decide (cmpP p q = 0) := by rw [Bool.eq_iff_iff, beq_iff_eq, decide_eq_true_eq]; exact key_eq hPG.bys hQG.bys e1 e2 e3
  have hkl := keyS_len p
  rw [hPG.all.len, hPG.l0, hPG.l1] at hkl
  rw [← lib_data (keyS p), ← lib_data (keyS q)] at hlt heq
  have hkz : (⟨(keyS p).toArray⟩ : ByteArray).size = bc + ks.length + ks.length + 2 := by rw [← hkl]; simp [ByteArray.size]
  have hrng := cmpP_ok.rng p q
  generalize (⟨(keyS p).toArray⟩ : ByteArray) = K1 at *
  generalize (⟨(keyS q).toArray⟩ : ByteArray) = K2 at *
  generalize cmpP p q = C at *
  clear e1 e2 e3 hkl hPI7 hQI7 hPG hQG
  have HP7 := Lib.hid hP7
  have HQ7 := Lib.hid hQ7
  have HG7 := Lib.hid hG7
  have z1 : IntKind.i64.wrap (2 * (ks.length : Int)) = 2 * (ks.length : Int) := IntWalk.i64_in _ (by omega)
  have z2 : IntKind.i64.wrap ((bc : Int) + 2 * (ks.length : Int)) = (bc : Int) + 2 * (ks.length : Int) := IntWalk.i64_in _ (by omega)
  have z3 : IntKind.i64.wrap ((bc : Int) + 2 * (ks.length : Int) + 2) = (bc : Int) + 2 * (ks.length : Int) + 2 := IntWalk.i64_in _ (by omega)
  have z4 : (((K1.size : Nat) : Int) == (bc : Int) + 2 * (ks.length : Int) + 2) = true := by rw [beq_iff_eq]; omega
  clear hkz
  have HIP : (Tryz.prog.info? 32).map (·.size) = some (#[.slice (some ⟨A, 0, none⟩) p.cells.length c, .slice (some ⟨B0, 0, none⟩) p.h0.length c0, .slice (some ⟨B1, 0, none⟩) p.h1.length c1, .int .i64 p.rights, .int .i64 p.side] : Array Value).size := info_pos8
  have HIQ : (Tryz.prog.info? 32).map (·.size) = some (#[.slice (some ⟨A2, 0, none⟩) q.cells.length d, .slice (some ⟨B2, 0, none⟩) q.h0.length d0, .slice (some ⟨B3, 0, none⟩) q.h1.length d1, .int .i64 q.rights, .int .i64 q.side] : Array Value).size := info_pos8
  go_wp2_with (with_reducible refine wpList_load_row rfl 32 (.tmp 9) rfl pb rfl 32 _ (0, 0) _ hP7 Tryz.underlying32 rfl HIP ?_)
  refine (KP.out _ (Below.refl _ _)).mono ?_
  rintro e w8 ⟨rfl, hb78⟩
  have hQ8 := (hb78.block _ hql).trans hQ7
  clear hP7 hQ7 hG7
  go_wp2_with (with_reducible refine wpList_load_row rfl 32 (.tmp 10) rfl qb rfl 32 _ (0, 0) _ hQ8 Tryz.underlying32 rfl HIQ ?_)
  refine (KQ.out _ hb78).mono ?_
  rintro e w9 ⟨rfl, hb89⟩
  have hb79 := below_step hb78 hb89
  clear hQ8 hb78 hb89 HIP HIQ
  have hbw9 := below_step hbw7 hb79
  rcases hrng with rfl | rfl | rfl
  · skip
    have t1 : Op.bytesLess K1.toList K2.toList = true := by rw [hlt]; rfl
    have t2 : (K1.toList == K2.toList) = false := by rw [heq]; rfl
    clear hlt heq
    have gP := (hb79.block _ hpl).trans HP7.out
    have gQ := (hb79.block _ hql).trans HQ7.out
    have gG := (hb79.block _ hgl).trans HG7.out
    have p0 := bx_cell gP 0 rfl
    have p1 := bx_cell gP 1 rfl
    have p2 := bx_cell gP 2 rfl
    have p3 := bx_cell gP 3 rfl
    have p4 := bx_cell gP 4 rfl
    have q0 := bx_cell gQ 0 rfl
    have q1 := bx_cell gQ 1 rfl
    have q2 := bx_cell gQ 2 rfl
    have q3 := bx_cell gQ 3 rfl
    have q4 := bx_cell gQ 4 rfl
    have g0 := bx_cell gG 0 rfl
    have g3 := bx_cell gG 3 rfl
    clear gP gQ gG
    go_wp2_with fail
    refine (KE.out _ hb79).mono ?_
    rintro e w10 ⟨rfl, hb910⟩
    have hb710 := below_step hb79 hb910
    have gP := (hb710.block _ hpl).trans HP7.out
    have gQ := (hb710.block _ hql).trans HQ7.out
    clear p0 p1 p2 p3 p4 q0 q1 q2 q3 q4 g0 g3
    have p0 := bx_cell gP 0 rfl
    have p1 := bx_cell gP 1 rfl
    have p2 := bx_cell gP 2 rfl
    have p3 := bx_cell gP 3 rfl
    have p4 := bx_cell gP 4 rfl
    have q0 := bx_cell gQ 0 rfl
    have q1 := bx_cell gQ 1 rfl
    have q2 := bx_cell gQ 2 rfl
    have q3 := bx_cell gQ 3 rfl
    have q4 := bx_cell gQ 4 rfl
    clear gP gQ
    go_wp2_with fail
    refine (KC.out _ hb710).mono ?_
    rintro e w11 ⟨rfl, hb1011⟩
    have hbE := below_step hbw7 (below_step hb710 hb1011)
    clear p0 p1 p2 p3 p4 q0 q1 q2 q3 q4
    go_wp2
    go_ret
    exact ⟨rfl, hbE⟩
  · skip
    have t1 : Op.bytesLess K1.toList K2.toList = false := by rw [hlt]; rfl
    have t2 : (K1.toList == K2.toList) = true := by rw [heq]; rfl
    clear hlt heq
    have gP := (hb79.block _ hpl).trans HP7.out
    have gQ := (hb79.block _ hql).trans HQ7.out
    have gG := (hb79.block _ hgl).trans HG7.out
    have p0 := bx_cell gP 0 rfl
    have p1 := bx_cell gP 1 rfl
    have p2 := bx_cell gP 2 rfl
    have p3 := bx_cell gP 3 rfl
    have p4 := bx_cell gP 4 rfl
    have q0 := bx_cell gQ 0 rfl
    have q1 := bx_cell gQ 1 rfl
    have q2 := bx_cell gQ 2 rfl
    have q3 := bx_cell gQ 3 rfl
    have q4 := bx_cell gQ 4 rfl
    have g0 := bx_cell gG 0 rfl
    have g3 := bx_cell gG 3 rfl
    clear gP gQ gG
    go_wp2_with fail
    refine (KE.out _ hb79).mono ?_
    rintro e w10 ⟨rfl, hb910⟩
    have hb710 := below_step hb79 hb910
    have gP := (hb710.block _ hpl).trans HP7.out
    have gQ := (hb710.block _ hql).trans HQ7.out
    clear p0 p1 p2 p3 p4 q0 q1 q2 q3 q4 g0 g3
    have p0 := bx_cell gP 0 rfl
    have p1 := bx_cell gP 1 rfl
    have p2 := bx_cell gP 2 rfl
    have p3 := bx_cell gP 3 rfl
    have p4 := bx_cell gP 4 rfl
    have q0 := bx_cell gQ 0 rfl
    have q1 := bx_cell gQ 1 rfl
    have q2 := bx_cell gQ 2 rfl
    have q3 := bx_cell gQ 3 rfl
    have q4 := bx_cell gQ 4 rfl
    clear gP gQ
    go_wp2_with fail
    refine (KC.out _ hb710).mono ?_
    rintro e w11 ⟨rfl, hb1011⟩
    have hbE := below_step hbw7 (below_step hb710 hb1011)
    clear p0 p1 p2 p3 p4 q0 q1 q2 q3 q4
    go_wp2
    go_ret
    exact ⟨rfl, hbE⟩
  · skip
    have t1 : Op.bytesLess K1.toList K2.toList = false := by rw [hlt]; rfl
    have t2 : (K1.toList == K2.toList) = false := by rw [heq]; rfl
    clear hlt heq
    have gP := (hb79.block _ hpl).trans HP7.out
    have gQ := (hb79.block _ hql).trans HQ7.out
    have gG := (hb79.block _ hgl).trans HG7.out
    have p0 := bx_cell gP 0 rfl
    have p1 := bx_cell gP 1 rfl
    have p2 := bx_cell gP 2 rfl
    have p3 := bx_cell gP 3 rfl
    have p4 := bx_cell gP 4 rfl
    have q0 := bx_cell gQ 0 rfl
    have q1 := bx_cell gQ 1 rfl
    have q2 := bx_cell gQ 2 rfl
    have q3 := bx_cell gQ 3 rfl
    have q4 := bx_cell gQ 4 rfl
    have g0 := bx_cell gG 0 rfl
    have g3 := bx_cell gG 3 rfl
    clear gP gQ gG
    go_wp2_with fail
    refine (KE.out _ hb79).mono ?_
    rintro e w10 ⟨rfl, hb910⟩
    have hb710 := below_step hb79 hb910
    have gP := (hb710.block _ hpl).trans HP7.out
    have gQ := (hb710.block _ hql).trans HQ7.out
    clear p0 p1 p2 p3 p4 q0 q1 q2 q3 q4 g0 g3
    have p0 := bx_cell gP 0 rfl
    have p1 := bx_cell gP 1 rfl
    have p2 := bx_cell gP 2 rfl
    have p3 := bx_cell gP 3 rfl
    have p4 := bx_cell gP 4 rfl
    have q0 := bx_cell gQ 0 rfl
    have q1 := bx_cell gQ 1 rfl
    have q2 := bx_cell gQ 2 rfl
    have q3 := bx_cell gQ 3 rfl
    have q4 := bx_cell gQ 4 rfl
    clear gP gQ
    go_wp2_with fail
    refine (KC.out _ hb710).mono ?_
    rintro e w11 ⟨rfl, hb1011⟩
    have hbE := below_step hbw7 (below_step hb710 hb1011)
    clear p0 p1 p2 p3 p4 q0 q1 q2 q3 q4
    go_wp2
    go_ret
    exact ⟨rfl, hbE⟩
end Go.Proofs.YtphhkfelpckilaaGreatDoor
