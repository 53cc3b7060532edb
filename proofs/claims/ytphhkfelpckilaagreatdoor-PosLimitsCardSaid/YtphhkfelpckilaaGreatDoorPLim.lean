/-
  PosLimits returns true, given that the examples do.
-/

import Derived.Test.YtphhkfelpckilaaGreatDoorGGame
import Derived.Test.YtphhkfelpckilaaGreatDoorGPos
import Derived.Test.YtphhkfelpckilaaGreatDoorPLimA
import Derived.Test.YtphhkfelpckilaaGreatDoorDValid
import Derived.Test.YtphhkfelpckilaaGreatDoorDParse
import Derived.Test.YtphhkfelpckilaaGreatDoorQThen
namespace Go.Proofs.YtphhkfelpckilaaGreatDoor
open Go Go.RowKit

set_option maxRecDepth 100000 in
set_option maxHeartbeats 4000000 in
theorem plim_any (Lib4 : World → Prop) (hS : ∀ W, Lib4 W → Calls Tryz.prog 12 #[] W fun e w' => e = .returned (.bool true) ∧ Below W.heap.size W w')
    (hUp : ∀ W W', Lib4 W → Below W.heap.size W W' → Lib4 W')
    (x : GRaw) (a0 a1 a2 : Option Addr) (c0 c1 c2 N : Nat) (y : PRaw) (v0 v1 v2 : Int) (w : World) (hL : Lib4 w) (hN : N ≤ w.heap.size) (hI : GRawIn N w a0 a1 a2 x) (hy : y.Ok) (hv0 : -2147483648 ≤ v0 ∧ v0 ≤ 2147483647) :
    Calls Tryz.prog 11 #[.agg (x.cells a0 a1 a2 c0 c1 c2), .agg y.cells, .agg #[.int .i32 v0, .int .i32 v1, .int .i32 v2]] w fun e w' => e = .returned (.bool true) ∧ Below w.heap.size w w' := by
  have HMG := Lib.hid (fun W h => made_game x a0 a1 a2 c0 c1 c2 N W h)
  have hsx : (x.cells a0 a1 a2 c0 c1 c2).size = 12 := rfl
  have hshY : y.cells.size = 18 := rfl
  have HMY := Lib.hid (fun bc r ks vn vt vm vc vb ve ak ck N W h1 h2 h3 h5 h6 => made_pos bc r ks vn vt vm vc vb ve ak ck N y W h1 h2 h3 hy h5 h6)
  generalize y.cells = ys at *
  generalize x.cells a0 a1 a2 c0 c1 c2 = xs at *
  go_enter Tryz.func11, Tryz.ntmps11
  go_upto_region 1 with (fail)
  have hb0 : Below w.heap.size w (((w.alloc (.cells xs 27)).alloc (.cells ys 61)).alloc (.cells #[.int .i32 v0, .int .i32 v1, .int .i32 v2] 77)) := below_alloc (below_alloc (below_alloc (Below.refl _ _) _) _) _
  have hX0 : (((w.alloc (.cells xs 27)).alloc (.cells ys 61)).alloc (.cells #[.int .i32 v0, .int .i32 v1, .int .i32 v2] 77)).heap[w.heap.size]? = some (.cells xs 27 (0, 0)) := hp_old_at (hp_old_at (World.alloc_heap_new _ _))
  have hY0 : (((w.alloc (.cells xs 27)).alloc (.cells ys 61)).alloc (.cells #[.int .i32 v0, .int .i32 v1, .int .i32 v2] 77)).heap[w.heap.size + 1]? = some (.cells ys 61 (0, 0)) := hp_old_at (hp_new_at _ _ (by simp))
  have hV0 : (((w.alloc (.cells xs 27)).alloc (.cells ys 61)).alloc (.cells #[.int .i32 v0, .int .i32 v1, .int .i32 v2] 77)).heap[w.heap.size + 1 + 1]? = some (.cells #[.int .i32 v0, .int .i32 v1, .int .i32 v2] 77 (0, 0)) := hp_new_at _ _ (by simp)
  generalize (((w.alloc (.cells xs 27)).alloc (.cells ys 61)).alloc (.cells #[.int .i32 v0, .int .i32 v1, .int .i32 v2] 77)) = w0 at *
  go_wp2_with fail
  refine (hS w0 (hUp _ _ hL hb0)).mono ?_
  rintro e w1 ⟨rfl, hb1⟩
  have hX1 := (hb1.block _ (bx_lt hX0)).trans hX0
  have hY1 := (hb1.block _ (bx_lt hY0)).trans hY0
  have hV1 := (hb1.block _ (bx_lt hV0)).trans hV0
  have hbw1 := below_step hb0 hb1
  have hI1 := hI.up hN hbw1
  have hN1 := Nat.le_trans hN hbw1.size
  clear hX0 hY0 hV0 hb0 hb1 hS hUp hL
  go_wp2_with (with_reducible refine wpList_load_row rfl 27 (.tmp 3) rfl w.heap.size rfl 27 xs (0, 0) _ hX1 Tryz.underlying27 rfl (by rw [hsx]; exact info_raw3) ?_)
  refine (HMG.out _ hN1 hI1).mono ?_
  rintro e w2 ⟨bc, r, ks, an, at_, ak, ac, ln, cn, lt, ct, ck, lc, cc, mu, bl, en, rfl, hK, hbc, hr, hks, hb2⟩
  have hY2 := (hb2.block _ (bx_lt hY1)).trans hY1
  have hV2 := (hb2.block _ (bx_lt hV1)).trans hV1
  have hgx := bx_lt hV2
  have hbw2 := below_step hbw1 hb2
  clear hX1 hY1 hV1 hb2 hI1 HMG hbw1 hN1
  go_upto_region 3 with (fail)
  have hG3 : (w2.alloc (.cells #[.int .i64 (bc : Int), .slice an ln cn, .slice at_ lt ct, .slice ak ks.length ck, .int .i64 (r : Int), .bool mu, .slice ac lc cc, .int .i64 bl, .int .i64 en] 41)).heap[w2.heap.size]? = some (.cells #[.int .i64 (bc : Int), .slice an ln cn, .slice at_ lt ct, .slice ak ks.length ck, .int .i64 (r : Int), .bool mu, .slice ac lc cc, .int .i64 bl, .int .i64 en] 41 (0, 0)) := World.alloc_heap_new _ _
  have hb23 := below_alloc (Below.refl _ w2) (.cells #[.int .i64 (bc : Int), .slice an ln cn, .slice at_ lt ct, .slice ak ks.length ck, .int .i64 (r : Int), .bool mu, .slice ac lc cc, .int .i64 bl, .int .i64 en] 41)
  have hY3 := (hb23.block _ (bx_lt hY2)).trans hY2
  have hV3 := (hb23.block _ (bx_lt hV2)).trans hV2
  have hK3 := hK.below hb23
  have hbw3 := below_step hbw2 hb23
  have hN3 := hb23.size
  have hs3 : (w2.alloc (.cells #[.int .i64 (bc : Int), .slice an ln cn, .slice at_ lt ct, .slice ak ks.length ck, .int .i64 (r : Int), .bool mu, .slice ac lc cc, .int .i64 bl, .int .i64 en] 41)).heap.size = w2.heap.size + 1 := by simp
  generalize (w2.alloc (.cells #[.int .i64 (bc : Int), .slice an ln cn, .slice at_ lt ct, .slice ak ks.length ck, .int .i64 (r : Int), .bool mu, .slice ac lc cc, .int .i64 bl, .int .i64 en] 41)) = w3 at *
  generalize w2.heap.size = gb at *
  have HIG : (Tryz.prog.info? 41).map (·.size) = some (#[.int .i64 (bc : Int), .slice an ln cn, .slice at_ lt ct, .slice ak ks.length ck, .int .i64 (r : Int), .bool mu, .slice ac lc cc, .int .i64 bl, .int .i64 en] : Array Value).size := info_game9
  clear hY2 hV2 hK hb23 hbw2
  go_wp2_with (first | (with_reducible refine wpList_load_row rfl 41 (.tmp 8) rfl gb rfl 41 _ (0, 0) _ hG3 Tryz.underlying41 rfl HIG ?_) | (with_reducible refine wpList_load_row rfl 61 (.tmp 4) rfl (w.heap.size + 1) rfl 61 ys (0, 0) _ hY3 Tryz.underlying61 rfl (by rw [hshY]; exact info_raw4) ?_))
  refine (HMY.out bc r ks _ _ _ _ _ _ ak ck gb w3 hbc hr hks hN3 hK3).mono ?_
  rintro e w4 ⟨p, A, B0, B1, c, c0, c1, rfl, HPO, HPN, HPG, -, hb34⟩
  have hG4 := (hb34.block _ (bx_lt hG3)).trans hG3
  have hV4 := (hb34.block _ (bx_lt hV3)).trans hV3
  have hbw4 := below_step hbw3 hb34
  have hN4 := Nat.le_trans hN3 hb34.size
  have hK4 := hK3.below (hb34.mono hN3)
  have hsz4 := hb34.size
  clear hG3 hbw3 hN3 hK3 hb34 hV3 hY3
  go_upto_region 4 with (fail)
  have hP5 : (w4.alloc (.cells #[.slice (some ⟨A, 0, none⟩) p.cells.length c, .slice (some ⟨B0, 0, none⟩) p.h0.length c0, .slice (some ⟨B1, 0, none⟩) p.h1.length c1, .int .i64 p.rights, .int .i64 p.side] 32)).heap[w4.heap.size]? = some (.cells #[.slice (some ⟨A, 0, none⟩) p.cells.length c, .slice (some ⟨B0, 0, none⟩) p.h0.length c0, .slice (some ⟨B1, 0, none⟩) p.h1.length c1, .int .i64 p.rights, .int .i64 p.side] 32 (0, 0)) := World.alloc_heap_new _ _
  have hb45 := below_alloc (Below.refl _ w4) (.cells #[.slice (some ⟨A, 0, none⟩) p.cells.length c, .slice (some ⟨B0, 0, none⟩) p.h0.length c0, .slice (some ⟨B1, 0, none⟩) p.h1.length c1, .int .i64 p.rights, .int .i64 p.side] 32)
  have hG5 := (hb45.block _ (bx_lt hG4)).trans hG4
  have hV5 := (hb45.block _ (bx_lt hV4)).trans hV4
  have hK5 := hK4.below (hb45.mono hN4)
  have hN5 := Nat.le_trans hN4 hb45.size
  have hbw5 := below_step hbw4 hb45
  have HPO5 := HPO.up hb45
  have hsz5 : (w4.alloc (.cells #[.slice (some ⟨A, 0, none⟩) p.cells.length c, .slice (some ⟨B0, 0, none⟩) p.h0.length c0, .slice (some ⟨B1, 0, none⟩) p.h1.length c1, .int .i64 p.rights, .int .i64 p.side] 32)).heap.size = w4.heap.size + 1 := by simp
  generalize w4.alloc (.cells #[.slice (some ⟨A, 0, none⟩) p.cells.length c, .slice (some ⟨B0, 0, none⟩) p.h0.length c0, .slice (some ⟨B1, 0, none⟩) p.h1.length c1, .int .i64 p.rights, .int .i64 p.side] 32) = w5 at *
  generalize w4.heap.size = pb at *
  clear hG4 hK4 hbw4 HPO hb45 hN4 hV4
  have hL5 : LimS bc r (gb + 1) pb A B0 B1 c c0 c1 ks p w5 := ⟨hP5, by rw [← hs3]; exact HPO5, HPN, HPG, by omega⟩
  clear hP5 HPO5 HPN
  have HL5 := Lib.hid hL5
  obtain ⟨u1, hu1, hb1⟩ : ∃ u : Nat, IntKind.u32.wrap v1 = (u : Int) ∧ u < 4294967296 := by
    refine ⟨(v1 % 4294967296).toNat, ?_, by omega⟩
    unfold IntKind.wrap; simp [IntKind.bits, IntKind.signed]; omega
  obtain ⟨u2, hu2, hb2⟩ : ∃ u : Nat, IntKind.u32.wrap v2 = (u : Int) ∧ u < 4294967296 := by
    refine ⟨(v2 % 4294967296).toNat, ?_, by omega⟩
    unfold IntKind.wrap; simp [IntKind.bits, IntKind.signed]; omega
  have i0 : IntKind.i64.wrap v0 = v0 := IntWalk.i64_in _ (by omega)
  have i2 : IntKind.i64.wrap (u2 : Int) = (u2 : Int) := IntWalk.i64_in _ (by omega)
  have e1 : ((u2 : Nat) : Int).tmod (ks.length : Int) = ((u2 % ks.length : Nat) : Int) := by rw [Int.tmod_eq_emod_of_nonneg (by omega)]; exact (Int.natCast_emod _ _).symm
  have l1 := Nat.mod_lt u2 (show 0 < ks.length by omega)
  have e2 : ((u2 : Nat) : Int).tmod (p.cells.length : Int) = ((u2 % p.cells.length : Nat) : Int) := by rw [Int.tmod_eq_emod_of_nonneg (by omega)]; exact (Int.natCast_emod _ _).symm
  have hpl := HPG.all.len
  have l2 := Nat.mod_lt u2 (show 0 < p.cells.length by omega)
  have e3 : ((u2 : Nat) : Int).tdiv 16 = ((u2 / 16 : Nat) : Int) := rfl
  have e4 : ((u2 / 16 : Nat) : Int).tmod 2 = ((u2 / 16 % 2 : Nat) : Int) := rfl
  have l4 := Nat.mod_lt (u2 / 16) (show 0 < 2 by omega)
  have e5 : ((u1 : Nat) : Int).tmod 6 = ((u1 % 6 : Nat) : Int) := rfl
  have l5 := Nat.mod_lt u1 (show 0 < 6 by omega)
  have lq : u2 / 16 < 4294967296 := by omega
  generalize u2 % ks.length = kk at *
  generalize u2 % p.cells.length = ii at *
  generalize u2 / 16 % 2 = ss at *
  generalize u2 / 16 = uq at *
  generalize u1 % 6 = mm at *
  have i3 : IntKind.i64.wrap (kk : Int) = (kk : Int) := IntWalk.i64_in _ (by omega)
  have i4 : IntKind.i64.wrap (ss : Int) = (ss : Int) := IntWalk.i64_in _ (by omega)
  have i5 : IntKind.i64.wrap (uq : Int) = (uq : Int) := IntWalk.i64_in _ (by omega)
  have i6 : IntKind.u32.wrap (uq : Int) = (uq : Int) := by unfold IntKind.wrap; simp [IntKind.bits, IntKind.signed]; omega
  have i7 : IntKind.u32.wrap (mm : Int) = (mm : Int) := by unfold IntKind.wrap; simp [IntKind.bits, IntKind.signed]; omega
  have i8 : IntKind.i64.wrap (ii : Int) = (ii : Int) := IntWalk.i64_in _ (by omega)
  have n1 : ((ks.length : Int) == 0) = false := by rw [beq_eq_false_iff_ne]; omega
  have n2 : ¬ ((ks.length : Int) = 0) := by omega
  have n3 : ((p.cells.length : Int) == 0) = false := by rw [beq_eq_false_iff_ne]; omega
  have n4 : ¬ ((p.cells.length : Int) = 0) := by omega
  have g3 := bx_cell hG5 3 rfl
  have x0 := bx_cell hV5 0 rfl
  have x1 := bx_cell hV5 1 rfl
  have x2 := bx_cell hV5 2 rfl
  go_upto_block 0 with (fail)
  have HX2 := Lib.hid hV5
  have HG5 := Lib.hid hG5
  have HK5 := Lib.hid hK5
  have HBW5 := Lib.hid hbw5
  have n5 : ¬ p.cells = [] := fun h => by rw [h] at l2; exact absurd l2 (Nat.not_lt_zero _)
  have n6 : ¬ ks = [] := fun h => by rw [h] at l1; exact absurd l1 (Nat.not_lt_zero _)
  have hgp : gb < pb := by omega
  clear hsz5 hs3 hsz4 hpl hV5 hG5 hK5 hbw5 x0 e3 e4 i4 i5 i6 n1 n2
  go_cut [13] (fun s13 wy => ∃ bw, s13 = .bool bw ∧ LimR bc r (gb + 1) pb ks w5 bw wy)
  case first =>
    rcases (show mm = 0 ∨ mm = 1 ∨ mm = 2 ∨ mm = 3 ∨ mm = 4 ∨ mm = 5 by omega) with rfl | rfl | rfl | rfl | rfl | rfl
    · skip
      obtain ⟨z1, z2⟩ := hL5.own.cells.cellAt (j := ii) l2
      have p0 := bx_cell hL5.box 0 rfl
      have hne := own_ne hL5.own.cells hL5.box
      have hlA := (own_lt hL5.own.cells)
      have t1 : (0 : Int) ≤ (ii : Int) := by omega
      have t2 : (ii : Int) < (p.cells.length : Int) := by omega
      have w1 : IntKind.i64.wrap (2 * (ks.length : Int)) = 2 * (ks.length : Int) := IntWalk.i64_in _ (by omega)
      clear hL5
      go_upto_region 11 with (fail)
      refine wp_region_held_drew (S := fun W => W.cell? ⟨pb, 0, none⟩ = some (.slice (some ⟨A, 0, none⟩) p.cells.length c) ∧ W.cell? ⟨w.heap.size + 1 + 1, 2, none⟩ = some (.int .i32 v2)) (by as_aux_lemma => kernel_rfl) ⟨p0, x2⟩ (fun hHeld => ?_)
      refine wpAnyH_take (i := 0) (oi := { dst := some 52, op := Op.fieldAddr 32 (Operand.tmp 9) 0, type := 0, pos := "law.go:249", after := #[], guard := none }) (v := ?_) rfl (by as_aux_lemma => kernel_rfl) (by as_aux_lemma => kernel_rfl) (by as_aux_lemma => kernel_rfl) (fun _ _ _ h => h) (Or.inl ⟨by rfl, ?_⟩) (by assumption) ?_
      rotate_left
      · ((intro w hSw; (try dsimp only at hSw); go_simp); try with_reducible rfl)
      (try simp only [Act.put, List.setIfInBounds_toArray, List.set_cons_zero, List.set_cons_succ])
      refine wpAnyH_take (i := 1) (oi := { dst := some 53, op := Op.load 29 (Operand.tmp 52), type := 29, pos := "law.go:249", after := #[{ on := 0, ground := Ground.data }], guard := none }) (v := ?_) rfl (by as_aux_lemma => kernel_rfl) (by as_aux_lemma => kernel_rfl) (by as_aux_lemma => kernel_rfl) (fun _ _ _ h => h) (Or.inl ⟨by rfl, ?_⟩) (by assumption) ?_
      rotate_left
      · ((intro w hSw; (try dsimp only at hSw); go_simp); try with_reducible rfl)
      (try simp only [Act.put, List.setIfInBounds_toArray, List.set_cons_zero, List.set_cons_succ])
      refine wpAnyH_take (i := 2) (oi := { dst := some 54, op := Op.indexAddr 77 (Operand.tmp 5) (Operand.const (Value.int IntKind.i64 2)), type := 0, pos := "law.go:249", after := #[], guard := none }) (v := ?_) rfl (by as_aux_lemma => kernel_rfl) (by as_aux_lemma => kernel_rfl) (by as_aux_lemma => kernel_rfl) (fun _ _ _ h => h) (Or.inl ⟨by rfl, ?_⟩) (by assumption) ?_
      rotate_left
      · ((intro w hSw; (try dsimp only at hSw); go_simp); try with_reducible rfl)
      (try simp only [Act.put, List.setIfInBounds_toArray, List.set_cons_zero, List.set_cons_succ])
      refine wpAnyH_take (i := 3) (oi := { dst := some 55, op := Op.load 21 (Operand.tmp 54), type := 21, pos := "law.go:249", after := #[{ on := 2, ground := Ground.data }], guard := none }) (v := ?_) rfl (by as_aux_lemma => kernel_rfl) (by as_aux_lemma => kernel_rfl) (by as_aux_lemma => kernel_rfl) (fun _ _ _ h => h) (Or.inl ⟨by rfl, ?_⟩) (by assumption) ?_
      rotate_left
      · ((intro w hSw; (try dsimp only at hSw); go_simp); try with_reducible rfl)
      (try simp only [Act.put, List.setIfInBounds_toArray, List.set_cons_zero, List.set_cons_succ])
      refine wpAnyH_take (i := 4) (oi := { dst := some 56, op := Op.convert 21 78 (Operand.tmp 55), type := 78, pos := "law.go:249", after := #[{ on := 3, ground := Ground.data }], guard := none }) (v := ?_) rfl (by as_aux_lemma => kernel_rfl) (by as_aux_lemma => kernel_rfl) (by as_aux_lemma => kernel_rfl) (fun _ _ _ h => h) (Or.inl ⟨by rfl, ?_⟩) (by assumption) ?_
      rotate_left
      · ((intro w hSw; (try dsimp only at hSw); go_simp); try with_reducible rfl)
      (try simp only [Act.put, List.setIfInBounds_toArray, List.set_cons_zero, List.set_cons_succ])
      refine wpAnyH_take (i := 5) (oi := { dst := some 57, op := Op.convert 78 3 (Operand.tmp 56), type := 3, pos := "law.go:249", after := #[{ on := 4, ground := Ground.data }], guard := none }) (v := ?_) rfl (by as_aux_lemma => kernel_rfl) (by as_aux_lemma => kernel_rfl) (by as_aux_lemma => kernel_rfl) (fun _ _ _ h => h) (Or.inl ⟨by rfl, ?_⟩) (by assumption) ?_
      rotate_left
      · ((intro w hSw; (try dsimp only at hSw); go_simp); try with_reducible rfl)
      (try simp only [Act.put, List.setIfInBounds_toArray, List.set_cons_zero, List.set_cons_succ])
      refine wpAnyH_take (i := 6) (oi := { dst := some 58, op := Op.fieldAddr 32 (Operand.tmp 9) 0, type := 0, pos := "law.go:249", after := #[], guard := none }) (v := ?_) rfl (by as_aux_lemma => kernel_rfl) (by as_aux_lemma => kernel_rfl) (by as_aux_lemma => kernel_rfl) (fun _ _ _ h => h) (Or.inl ⟨by rfl, ?_⟩) (by assumption) ?_
      rotate_left
      · ((intro w hSw; (try dsimp only at hSw); go_simp); try with_reducible rfl)
      (try simp only [Act.put, List.setIfInBounds_toArray, List.set_cons_zero, List.set_cons_succ])
      refine wpAnyH_take (i := 7) (oi := { dst := some 59, op := Op.load 29 (Operand.tmp 58), type := 29, pos := "law.go:249", after := #[{ on := 6, ground := Ground.data }], guard := none }) (v := ?_) rfl (by as_aux_lemma => kernel_rfl) (by as_aux_lemma => kernel_rfl) (by as_aux_lemma => kernel_rfl) (fun _ _ _ h => h) (Or.inl ⟨by rfl, ?_⟩) (by assumption) ?_
      rotate_left
      · ((intro w hSw; (try dsimp only at hSw); go_simp); try with_reducible rfl)
      (try simp only [Act.put, List.setIfInBounds_toArray, List.set_cons_zero, List.set_cons_succ])
      refine wpAnyH_take (i := 8) (oi := { dst := some 60, op := Op.call { callee := Callee.builtin Builtin.len, args := #[Operand.tmp 59], argTypes := #[29] }, type := 3, pos := "law.go:249", after := #[{ on := 7, ground := Ground.data }], guard := none }) (v := ?_) rfl (by as_aux_lemma => kernel_rfl) (by as_aux_lemma => kernel_rfl) (by as_aux_lemma => kernel_rfl) (fun _ _ _ h => h) (Or.inl ⟨by rfl, ?_⟩) (by assumption) ?_
      rotate_left
      · ((intro w hSw; (try dsimp only at hSw); go_simp); try with_reducible rfl)
      (try simp only [Act.put, List.setIfInBounds_toArray, List.set_cons_zero, List.set_cons_succ])
      refine wpAnyH_take (i := 9) (oi := { dst := some 61, op := Op.binOp BinOp.rem 3 (Operand.tmp 57) (Operand.tmp 60) 3, type := 3, pos := "law.go:249", after := #[{ on := 5, ground := Ground.data }, { on := 8, ground := Ground.data }], guard := none }) (v := ?_) rfl (by as_aux_lemma => kernel_rfl) (by as_aux_lemma => kernel_rfl) (by as_aux_lemma => kernel_rfl) (fun _ _ _ h => h) (Or.inl ⟨by rfl, ?_⟩) (by assumption) ?_
      rotate_left
      · ((intro w hSw; (try dsimp only at hSw); go_simp); try with_reducible rfl)
      (try simp only [Act.put, List.setIfInBounds_toArray, List.set_cons_zero, List.set_cons_succ])
      refine wpAnyH_take (i := 10) (oi := { dst := some 62, op := Op.move (Operand.tmp 10), type := 3, pos := "law.go:249", after := #[], guard := none }) (v := ?_) rfl (by as_aux_lemma => kernel_rfl) (by as_aux_lemma => kernel_rfl) (by as_aux_lemma => kernel_rfl) (fun _ _ _ h => h) (Or.inl ⟨by rfl, ?_⟩) (by assumption) ?_
      rotate_left
      · ((intro w hSw; (try dsimp only at hSw); go_simp); try with_reducible rfl)
      (try simp only [Act.put, List.setIfInBounds_toArray, List.set_cons_zero, List.set_cons_succ])
      refine wpAnyH_take (i := 11) (oi := { dst := some 63, op := Op.indexAddr 29 (Operand.tmp 53) (Operand.tmp 61), type := 0, pos := "law.go:249", after := #[{ on := 1, ground := Ground.data }, { on := 9, ground := Ground.data }, { on := 0, ground := Ground.phase }, { on := 1, ground := Ground.phase }, { on := 2, ground := Ground.phase }, { on := 3, ground := Ground.phase }, { on := 4, ground := Ground.phase }, { on := 5, ground := Ground.phase }, { on := 6, ground := Ground.phase }, { on := 7, ground := Ground.phase }, { on := 8, ground := Ground.phase }, { on := 9, ground := Ground.phase }, { on := 10, ground := Ground.phase }], guard := none }) (v := ?_) rfl (by as_aux_lemma => kernel_rfl) (by as_aux_lemma => kernel_rfl) (by as_aux_lemma => kernel_rfl) (fun _ _ _ h => h) (Or.inl ⟨by rfl, ?_⟩) (by assumption) ?_
      rotate_left
      · ((intro w hSw; (try dsimp only at hSw); go_simp); try with_reducible rfl)
      (try simp only [Act.put, List.setIfInBounds_toArray, List.set_cons_zero, List.set_cons_succ])
      refine wpAnyH_ready (rs := [12]) (by as_aux_lemma => kernel_rfl) (by simp) ?_
      refine AllReadyH.cons (o := { dst := none, op := Op.store 3 (Operand.tmp 63) (Operand.tmp 62), type := 0, pos := "law.go:249", after := #[{ on := 11, ground := Ground.data }, { on := 10, ground := Ground.data }, { on := 0, ground := Ground.phase }, { on := 1, ground := Ground.phase }, { on := 2, ground := Ground.phase }, { on := 3, ground := Ground.phase }, { on := 4, ground := Ground.phase }, { on := 5, ground := Ground.phase }, { on := 6, ground := Ground.phase }, { on := 7, ground := Ground.phase }, { on := 8, ground := Ground.phase }, { on := 9, ground := Ground.phase }, { on := 10, ground := Ground.phase }], guard := none }) rfl (fun K hK => ?_) AllReadyH.nil
      go_simp
      refine hK.out _ _ ⟨(World.cell?_setCell_far _ _ _ _ (by simp; omega)).trans hHeld.1, (World.cell?_setCell_far _ _ _ _ (by simp; omega)).trans hHeld.2⟩ (fun _ => ?_)
      clear hK K hHeld
      (try simp only [Act.put, List.setIfInBounds_toArray, List.set_cons_zero, List.set_cons_succ])
      refine wpAnyH_done (by as_aux_lemma => kernel_rfl) ?_ _
      have HR := Lib.hid ((HL5.out.setA v0 l2).drew)
      have hgA : gb < A := by omega
      have q3 : (w5.setCell ⟨A, ii, none⟩ (.int .i64 v0)).drew.cell? ⟨gb, 3, none⟩ = some (.slice ak ks.length ck) := (World.cell?_setCell_far _ _ _ _ (by simp; omega)).trans g3
      clear z1 z2 p0 g3 x1 x2
      generalize (w5.setCell ⟨A, ii, none⟩ (.int .i64 v0)).drew = w6 at *
      by_cases b1 : 0 ≤ v0
      · by_cases b2 : v0 ≤ 2 * (ks.length : Int)
        · have d1 : decide (0 ≤ v0) = true := by simpa using b1
          have d2 : decide (v0 ≤ 2 * (ks.length : Int)) = true := by simpa using b2
          have HF := Lib.hid (show upToB v0 (2 * (ks.length : Int)) = true by unfold upToB; simp; omega)
          clear b1 b2
          go_wp2
          go_meet
          case rel => exact ⟨_, rfl, by have h9 := HR.out; have e9 := HF.out; first | (rw [e9] at h9; exact h9) | (have h8 : LimR _ _ _ _ _ _ (upToB v0 (2 * (ks.length : Int))) _ := h9; rw [e9] at h8; exact h8)⟩
        · have d1 : decide (0 ≤ v0) = true := by simpa using b1
          have d2 : decide (v0 ≤ 2 * (ks.length : Int)) = false := by simpa using b2
          have HF := Lib.hid (show upToB v0 (2 * (ks.length : Int)) = false by unfold upToB; rw [Bool.eq_false_iff]; simp; omega)
          clear b1 b2
          go_wp2
          go_meet
          case rel => exact ⟨_, rfl, by have h9 := HR.out; have e9 := HF.out; first | (rw [e9] at h9; exact h9) | (have h8 : LimR _ _ _ _ _ _ (upToB v0 (2 * (ks.length : Int))) _ := h9; rw [e9] at h8; exact h8)⟩
      · have d1 : decide (0 ≤ v0) = false := by simpa using b1
        have HF := Lib.hid (show upToB v0 (2 * (ks.length : Int)) = false by unfold upToB; rw [Bool.eq_false_iff]; simp; omega)
        clear b1
        go_wp2
        go_meet
        case rel => exact ⟨_, rfl, by have h9 := HR.out; have e9 := HF.out; first | (rw [e9] at h9; exact h9) | (have h8 : LimR _ _ _ _ _ _ (upToB v0 (2 * (ks.length : Int))) _ := h9; rw [e9] at h8; exact h8)⟩
    · skip
      obtain ⟨kb, koff, hka, hkN, hkc⟩ := HK5.out.at_ l1
      subst hka
      have hlg := bx_lt HG5.out
      rcases (show ss = 0 ∨ ss = 1 by omega) with rfl | rfl
      · have HR := Lib.hid (HL5.out.set0 (k := kk) v0 (by have := HPG.l0; omega))
        obtain ⟨z1, z2⟩ := hL5.own.h0.cellAt (j := kk) (by have := HPG.l0; omega)
        have p1 : w5.cell? ⟨pb, 1, none⟩ = some (.slice (some ⟨B0, 0, none⟩) p.h0.length c0) := bx_cell hL5.box 1 rfl
        have hne := own_ne hL5.own.h0 hL5.box
        have hlA := own_lt hL5.own.h0
        have t1 : (0 : Int) ≤ (kk : Int) := by omega
        have t2 : (kk : Int) < (p.h0.length : Int) := by have := HPG.l0; omega
        have t3 : (kk : Int) < (ks.length : Int) := by omega
        clear hL5
        go_upto_region 15 with (fail)
        have q3 : (w5.setCell ⟨B0, kk, none⟩ (.int .i64 v0)).cell? ⟨gb, 3, none⟩ = some (.slice (some ⟨kb, koff, none⟩) ks.length ck) := (World.cell?_setCell_far _ _ _ _ (by simp; omega)).trans g3
        have qk := (World.cell?_setCell_far w5 ⟨B0, kk, none⟩ ⟨kb, koff + kk * 3 + 2, none⟩ (.int .i64 v0) (by simp; omega)).trans hkc
        clear z1 z2 p1 g3 x1 x2 hkc
        generalize w5.setCell ⟨B0, kk, none⟩ (.int .i64 v0) = w6 at *
        generalize ks[kk]?.getD false = kv at *
        by_cases b1 : v0 = 0
        · subst b1
          have HF := Lib.hid (show upToB 0 (if kv = true then 8 else 0) = true by unfold upToB; cases kv <;> rfl)
          go_wp2
          go_meet
          case rel => exact ⟨_, rfl, by have h9 := HR.out; rw [HF.out] at h9; exact h9⟩
        · have d1 : (v0 == 0) = false := by simpa using b1
          by_cases b2 : 0 < v0
          · have d2 : decide (0 < v0) = true := by simpa using b2
            by_cases b3 : v0 ≤ 8
            · have d3 : decide (v0 ≤ 8) = true := by simpa using b3
              have HF := Lib.hid (show upToB v0 (if kv = true then 8 else 0) = kv by
                unfold upToB
                cases kv
                · rw [Bool.eq_false_iff]; simp; omega
                · simp; omega)
              clear b1 b2 b3
              go_wp2
              go_meet
              case rel => exact ⟨_, rfl, by have h9 := HR.out; rw [HF.out] at h9; exact h9⟩
            · have d3 : decide (v0 ≤ 8) = false := by simpa using b3
              have HF := Lib.hid (show upToB v0 (if kv = true then 8 else 0) = false by
                unfold upToB
                rw [Bool.eq_false_iff]
                cases kv <;> simp <;> omega)
              clear b1 b2 b3
              go_wp2
              go_meet
              case rel => exact ⟨_, rfl, by have h9 := HR.out; rw [HF.out] at h9; exact h9⟩
          · have d2 : decide (0 < v0) = false := by simpa using b2
            have HF := Lib.hid (show upToB v0 (if kv = true then 8 else 0) = false by
              unfold upToB
              rw [Bool.eq_false_iff]
              cases kv <;> simp <;> omega)
            clear b1 b2
            go_wp2
            go_meet
            case rel => exact ⟨_, rfl, by have h9 := HR.out; rw [HF.out] at h9; exact h9⟩
      · have HR := Lib.hid (HL5.out.set1 (k := kk) v0 (by have := HPG.l1; omega))
        obtain ⟨z1, z2⟩ := hL5.own.h1.cellAt (j := kk) (by have := HPG.l1; omega)
        have p1 : w5.cell? ⟨pb, 2, none⟩ = some (.slice (some ⟨B1, 0, none⟩) p.h1.length c1) := bx_cell hL5.box 2 rfl
        have hne := own_ne hL5.own.h1 hL5.box
        have hlA := own_lt hL5.own.h1
        have t1 : (0 : Int) ≤ (kk : Int) := by omega
        have t2 : (kk : Int) < (p.h1.length : Int) := by have := HPG.l1; omega
        have t3 : (kk : Int) < (ks.length : Int) := by omega
        clear hL5
        go_upto_region 15 with (fail)
        have q3 : (w5.setCell ⟨B1, kk, none⟩ (.int .i64 v0)).cell? ⟨gb, 3, none⟩ = some (.slice (some ⟨kb, koff, none⟩) ks.length ck) := (World.cell?_setCell_far _ _ _ _ (by simp; omega)).trans g3
        have qk := (World.cell?_setCell_far w5 ⟨B1, kk, none⟩ ⟨kb, koff + kk * 3 + 2, none⟩ (.int .i64 v0) (by simp; omega)).trans hkc
        clear z1 z2 p1 g3 x1 x2 hkc
        generalize w5.setCell ⟨B1, kk, none⟩ (.int .i64 v0) = w6 at *
        generalize ks[kk]?.getD false = kv at *
        by_cases b1 : v0 = 0
        · subst b1
          have HF := Lib.hid (show upToB 0 (if kv = true then 8 else 0) = true by unfold upToB; cases kv <;> rfl)
          go_wp2
          go_meet
          case rel => exact ⟨_, rfl, by have h9 := HR.out; rw [HF.out] at h9; exact h9⟩
        · have d1 : (v0 == 0) = false := by simpa using b1
          by_cases b2 : 0 < v0
          · have d2 : decide (0 < v0) = true := by simpa using b2
            by_cases b3 : v0 ≤ 8
            · have d3 : decide (v0 ≤ 8) = true := by simpa using b3
              have HF := Lib.hid (show upToB v0 (if kv = true then 8 else 0) = kv by
                unfold upToB
                cases kv
                · rw [Bool.eq_false_iff]; simp; omega
                · simp; omega)
              clear b1 b2 b3
              go_wp2
              go_meet
              case rel => exact ⟨_, rfl, by have h9 := HR.out; rw [HF.out] at h9; exact h9⟩
            · have d3 : decide (v0 ≤ 8) = false := by simpa using b3
              have HF := Lib.hid (show upToB v0 (if kv = true then 8 else 0) = false by
                unfold upToB
                rw [Bool.eq_false_iff]
                cases kv <;> simp <;> omega)
              clear b1 b2 b3
              go_wp2
              go_meet
              case rel => exact ⟨_, rfl, by have h9 := HR.out; rw [HF.out] at h9; exact h9⟩
          · have d2 : decide (0 < v0) = false := by simpa using b2
            have HF := Lib.hid (show upToB v0 (if kv = true then 8 else 0) = false by
              unfold upToB
              rw [Bool.eq_false_iff]
              cases kv <;> simp <;> omega)
            clear b1 b2
            go_wp2
            go_meet
            case rel => exact ⟨_, rfl, by have h9 := HR.out; rw [HF.out] at h9; exact h9⟩
    · skip
      have HR := Lib.hid (HL5.out.rights v0)
      have p3 := bx_cell hL5.box 3 rfl
      have f3 := bx_frozen hL5.box 3
      have g4 := bx_cell HG5.out 4 rfl
      clear hL5
      go_upto_region 18 with (fail)
      have q4 : (w5.setCell ⟨pb, 3, none⟩ (.int .i64 v0)).cell? ⟨gb, 4, none⟩ = some (.int .i64 (r : Int)) := (World.cell?_setCell_far _ _ _ _ (by simp; omega)).trans g4
      clear p3 f3 g4 g3 x1 x2
      generalize w5.setCell ⟨pb, 3, none⟩ (.int .i64 v0) = w6 at *
      rcases (show r = 0 ∨ r = 1 ∨ r = 2 by omega) with rfl | rfl | rfl
      · skip
        by_cases b1 : 0 ≤ v0
        · by_cases b2 : v0 < 1
          · have d1 : decide (0 ≤ v0) = true := by simpa using b1
            have d2 : decide (v0 < 1) = true := by simpa using b2
            have HF := Lib.hid (show upToB v0 (0) = true by unfold upToB; simp; omega)
            clear b1 b2
            go_wp2
            go_meet
            case rel => exact ⟨_, rfl, by have h9 := HR.out; have e9 := HF.out; first | (rw [e9] at h9; exact h9) | (have h8 : LimR _ _ _ _ _ _ (upToB v0 (0)) _ := h9; rw [e9] at h8; exact h8)⟩
          · have d1 : decide (0 ≤ v0) = true := by simpa using b1
            have d2 : decide (v0 < 1) = false := by simpa using b2
            have HF := Lib.hid (show upToB v0 (0) = false by unfold upToB; rw [Bool.eq_false_iff]; simp; omega)
            clear b1 b2
            go_wp2
            go_meet
            case rel => exact ⟨_, rfl, by have h9 := HR.out; have e9 := HF.out; first | (rw [e9] at h9; exact h9) | (have h8 : LimR _ _ _ _ _ _ (upToB v0 (0)) _ := h9; rw [e9] at h8; exact h8)⟩
        · have d1 : decide (0 ≤ v0) = false := by simpa using b1
          have HF := Lib.hid (show upToB v0 (0) = false by unfold upToB; rw [Bool.eq_false_iff]; simp; omega)
          clear b1
          go_wp2
          go_meet
          case rel => exact ⟨_, rfl, by have h9 := HR.out; have e9 := HF.out; first | (rw [e9] at h9; exact h9) | (have h8 : LimR _ _ _ _ _ _ (upToB v0 (0)) _ := h9; rw [e9] at h8; exact h8)⟩
      · skip
        by_cases b1 : 0 ≤ v0
        · by_cases b2 : v0 < 2
          · have d1 : decide (0 ≤ v0) = true := by simpa using b1
            have d2 : decide (v0 < 2) = true := by simpa using b2
            have HF := Lib.hid (show upToB v0 (1) = true by unfold upToB; simp; omega)
            clear b1 b2
            go_wp2
            go_meet
            case rel => exact ⟨_, rfl, by have h9 := HR.out; have e9 := HF.out; first | (rw [e9] at h9; exact h9) | (have h8 : LimR _ _ _ _ _ _ (upToB v0 (1)) _ := h9; rw [e9] at h8; exact h8)⟩
          · have d1 : decide (0 ≤ v0) = true := by simpa using b1
            have d2 : decide (v0 < 2) = false := by simpa using b2
            have HF := Lib.hid (show upToB v0 (1) = false by unfold upToB; rw [Bool.eq_false_iff]; simp; omega)
            clear b1 b2
            go_wp2
            go_meet
            case rel => exact ⟨_, rfl, by have h9 := HR.out; have e9 := HF.out; first | (rw [e9] at h9; exact h9) | (have h8 : LimR _ _ _ _ _ _ (upToB v0 (1)) _ := h9; rw [e9] at h8; exact h8)⟩
        · have d1 : decide (0 ≤ v0) = false := by simpa using b1
          have HF := Lib.hid (show upToB v0 (1) = false by unfold upToB; rw [Bool.eq_false_iff]; simp; omega)
          clear b1
          go_wp2
          go_meet
          case rel => exact ⟨_, rfl, by have h9 := HR.out; have e9 := HF.out; first | (rw [e9] at h9; exact h9) | (have h8 : LimR _ _ _ _ _ _ (upToB v0 (1)) _ := h9; rw [e9] at h8; exact h8)⟩
      · skip
        by_cases b1 : 0 ≤ v0
        · by_cases b2 : v0 < 4
          · have d1 : decide (0 ≤ v0) = true := by simpa using b1
            have d2 : decide (v0 < 4) = true := by simpa using b2
            have HF := Lib.hid (show upToB v0 (3) = true by unfold upToB; simp; omega)
            clear b1 b2
            go_wp2
            go_meet
            case rel => exact ⟨_, rfl, by have h9 := HR.out; have e9 := HF.out; first | (rw [e9] at h9; exact h9) | (have h8 : LimR _ _ _ _ _ _ (upToB v0 (3)) _ := h9; rw [e9] at h8; exact h8)⟩
          · have d1 : decide (0 ≤ v0) = true := by simpa using b1
            have d2 : decide (v0 < 4) = false := by simpa using b2
            have HF := Lib.hid (show upToB v0 (3) = false by unfold upToB; rw [Bool.eq_false_iff]; simp; omega)
            clear b1 b2
            go_wp2
            go_meet
            case rel => exact ⟨_, rfl, by have h9 := HR.out; have e9 := HF.out; first | (rw [e9] at h9; exact h9) | (have h8 : LimR _ _ _ _ _ _ (upToB v0 (3)) _ := h9; rw [e9] at h8; exact h8)⟩
        · have d1 : decide (0 ≤ v0) = false := by simpa using b1
          have HF := Lib.hid (show upToB v0 (3) = false by unfold upToB; rw [Bool.eq_false_iff]; simp; omega)
          clear b1
          go_wp2
          go_meet
          case rel => exact ⟨_, rfl, by have h9 := HR.out; have e9 := HF.out; first | (rw [e9] at h9; exact h9) | (have h8 : LimR _ _ _ _ _ _ (upToB v0 (3)) _ := h9; rw [e9] at h8; exact h8)⟩
    · skip
      have HR := Lib.hid (HL5.out.side v0)
      have p4 := bx_cell hL5.box 4 rfl
      have f4 := bx_frozen hL5.box 4
      clear hL5
      by_cases b1 : v0 = 0
      · subst b1
        go_wp2
        go_meet
        case rel => exact ⟨_, rfl, by have := HR.out; rw [show upToB 0 1 = true from rfl] at this; exact this⟩
      · by_cases b2 : v0 = 1
        · subst b2
          go_wp2
          go_meet
          case rel => exact ⟨_, rfl, by have := HR.out; rw [show upToB 1 1 = true from rfl] at this; exact this⟩
        · have d1 : (v0 == 0) = false := by simpa using b1
          have d2 : (v0 == 1) = false := by simpa using b2
          go_wp2
          go_meet
          case rel => exact ⟨_, rfl, by have := HR.out; rw [show upToB v0 1 = false by unfold upToB; rw [Bool.eq_false_iff]; simp; omega] at this; exact this⟩
    · skip
      have p0 := bx_cell hL5.box 0 rfl
      have f0 := bx_frozen hL5.box 0
      have HA := Lib.hid hL5.own.cells
      have hlb := hL5.lt
      have hbx := hL5.box
      have hne := own_ne hL5.own.cells hL5.box
      have hlA := own_lt hL5.own.cells
      have hs := HPG.small.cells
      clear hL5
      go_wp2_with (at_builtin; go_loud (refine wpList_push rfl (.tmp 127) (.tmp 128) rfl (gb + 1) (.slice (some ⟨A, 0, none⟩) p.cells.length c) p.cells rfl (OwnInts.up1 HA.out) (by omega) (by simp; omega) ⟨w5.heap.size, 0, none⟩ 0 rfl (cell_new_at _ _ _ _ _ _ rfl rfl) ?_; intro g7 cap7 w7 hown7 hg7 hw7; have hP7 := (hg7.block pb (by rw [World.size_alloc]; omega) (show ¬ some pb = some A from fun e => hne (Option.some.inj e).symm)).trans (hp_old_at hbx); have z1 := bx_cell hP7 0 rfl; have z2 := bx_frozen hP7 0; clear hP7))
      have hw8 : some A = some g7 ∨ w5.heap.size < g7 := by
        rcases hw7 with h | h
        · left; exact h
        · right; rw [h, World.size_alloc]; omega
      go_meet
      case rel => exact ⟨_, rfl, HL5.out.more hg7 hown7 hw8⟩
    · skip
      rcases (show ss = 0 ∨ ss = 1 by omega) with rfl | rfl
      · have HR := Lib.hid (HL5.out.t0 (k := kk) l1)
        have p1 : w5.cell? ⟨pb, 1, none⟩ = some (.slice (some ⟨B0, 0, none⟩) p.h0.length c0) := bx_cell hL5.box 1 rfl
        have f1 := bx_frozen hL5.box 1
        have hcap : p.h0.length ≤ c0 := own_cap1 hL5.own.h0
        have t1 : (0 : Int) ≤ (kk : Int) := by omega
        have t2 : (kk : Int) ≤ (c0 : Int) := by have := HPG.l0; omega
        clear hL5
        go_wp2
        go_meet
        case rel => exact ⟨_, rfl, HR.out⟩
      · have HR := Lib.hid (HL5.out.t1 (k := kk) l1)
        have p1 : w5.cell? ⟨pb, 2, none⟩ = some (.slice (some ⟨B1, 0, none⟩) p.h1.length c1) := bx_cell hL5.box 2 rfl
        have f1 := bx_frozen hL5.box 2
        have hcap : p.h1.length ≤ c1 := own_cap1 hL5.own.h1
        have t1 : (0 : Int) ≤ (kk : Int) := by omega
        have t2 : (kk : Int) ≤ (c1 : Int) := by have := HPG.l1; omega
        clear hL5
        go_wp2
        go_meet
        case rel => exact ⟨_, rfl, HR.out⟩
  case rest =>
    obtain ⟨bw, rfl, q, a, b0, b1, d, d0, d1, hqB, hqP, hqI, hqF, hbq⟩ := hcut
    generalize wc = w6 at *
    have hG6 := (hbq.block gb (by omega)).trans HG5.out
    have hK6 := HK5.out.below (hbq.mono (by omega))
    have hbw6 := HBW5.out.trans (hbq.mono (by omega))
    have hs6 := hbq.size
    have HV := Lib.hid (posValid_any bc r ks (.slice an ln cn) (.slice at_ lt ct) (.bool mu) (.slice ac lc cc) (.int .i64 bl) (.int .i64 en) q ak a b0 b1 ck d d0 d1 w6.heap.size w6 (by omega) (by omega) hqF (Nat.le_refl _) hqI (hK6.to (Below.refl _ _) (by omega) (by omega)))
    rw [hqB] at HV
    have g0 := bx_cell hG6 0 rfl
    have g1 := bx_cell hG6 1 rfl
    have g2 := bx_cell hG6 2 rfl
    have g4 := bx_cell hG6 4 rfl
    have g5 := bx_cell hG6 5 rfl
    have g6 := bx_cell hG6 6 rfl
    have g7 := bx_cell hG6 7 rfl
    have g8 := bx_cell hG6 8 rfl
    clear g3
    have g3 := bx_cell hG6 3 rfl
    have p0 := bx_cell hqP 0 rfl
    have p1 := bx_cell hqP 1 rfl
    have p2 := bx_cell hqP 2 rfl
    have p3 := bx_cell hqP 3 rfl
    have p4 := bx_cell hqP 4 rfl
    clear hqB hqP hG6 hK6 hqI hqF hbq
    go_wp2_with fail
    refine HV.out.mono ?_
    rintro e w7 ⟨rfl, hb67⟩
    have hbE := below_step hbw6 hb67
    clear g0 g1 g2 g3 g4 g5 g6 g7 g8 p0 p1 p2 p3 p4
    go_wp2
    go_ret
    exact ⟨by simp, hbE⟩
end Go.Proofs.YtphhkfelpckilaaGreatDoor
