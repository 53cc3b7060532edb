/-
  PosParses returns true.
-/

import Derived.Test.YtphhkfelpckilaaGreatDoorPTxA
import Derived.Test.YtphhkfelpckilaaGreatDoorPPaA
namespace Go.Proofs.YtphhkfelpckilaaGreatDoor
open Go Go.RowKit Go.Lib Go.Sort
attribute [local irreducible] Go.wpQuiet

theorem PosOwn.past {n : Nat} {W W' : World} {a a0 a1 : Option Addr} {c c0 c1 : Nat} {p : PosS} {S : Nat → Prop} (ho : PosOwn n W a a0 a1 c c0 c1 p) (ha : Alters S W W') (hS : ∀ k, S k → k < n ∨ W.heap.size ≤ k) : PosOwn n W' a a0 a1 c c0 c1 p :=
  ⟨ho.cells.alters ha (fun k hk hv => by have := World.ownsRow.lt ho.cells k hv.symm; rcases hS k hk with h | h <;> omega), ho.h0.alters ha (fun k hk hv => by have := World.ownsRow.lt ho.h0 k hv.symm; rcases hS k hk with h | h <;> omega), ho.h1.alters ha (fun k hk hv => by have := World.ownsRow.lt ho.h1 k hv.symm; rcases hS k hk with h | h <;> omega)⟩
theorem bytes_list (b : ByteArray) (n : Nat) (h : b.size ≤ n) : ∃ l : List UInt8, b = ⟨l.toArray⟩ ∧ l.length ≤ n := ⟨b.data.toList, by rw [Array.toArray_toList], by rw [Array.length_toList]; exact h⟩
theorem rparseA (bc r : Nat) (ks : List Bool) (vn vt vm vc vb ve : Value) (ak : Option Addr) (ck N : Nat) (s : List UInt8) (w : World) (hbc : bc ≤ 9) (hr : r ≤ 2) (hks : ks.length ≤ 2) (hN : N ≤ w.heap.size) (hK : Keeps N w ak ks) (hl : s.length ≤ 1000000) :
    Calls Tryz.prog 35 #[.agg #[.int .i64 (bc : Int), vn, vt, .slice ak ks.length ck, .int .i64 (r : Int), vm, vc, vb, ve], .string ⟨s.toArray⟩] w (RParsed w (parsedP bc r ks (readP s) s) (parsedE bc r ks (readP s) s)) := by
  have h := rparse_any bc r ks vn vt vm vc vb ve ak ck N s w hbc hr hks hN hK hl
  rw [(rf_agrees s hbc hr hks).1, (rf_agrees s hbc hr hks).2] at h
  exact h

set_option maxRecDepth 100000 in
set_option maxHeartbeats 3000000 in
theorem ppar_any (x : GRaw) (a0 a1 a2 : Option Addr) (c0 c1 c2 N : Nat) (y : PRaw) (u : List UInt8) (w : World) (hL : EnvIn w) (hN : N ≤ w.heap.size) (hI : GRawIn N w a0 a1 a2 x) (hy : y.Ok) :
    Calls Tryz.prog 10 #[.agg (x.cells a0 a1 a2 c0 c1 c2), .agg y.cells, .string ⟨u.toArray⟩] w fun e w' => e = .returned (.bool true) ∧ Below w.heap.size w w' := by
  have HMG := Lib.hid (fun W h => made_game x a0 a1 a2 c0 c1 c2 N W h)
  have HMY := Lib.hid (fun bc r ks vn vt vm vc vb ve ak ck N W h1 h2 h3 h5 h6 => made_posA bc r ks vn vt vm vc vb ve ak ck N y W h1 h2 h3 hy h5 h6)
  have hsx : (x.cells a0 a1 a2 c0 c1 c2).size = 12 := rfl
  have hsys : y.cells.size = 18 := rfl
  have hz0 : y.cells[0]? = some (.int .u8 (y.cell 0)) := rfl
  have hz1 : y.cells[1]? = some (.int .u8 (y.cell 1)) := rfl
  have hc0 := hy.cell 0
  have hc1 := hy.cell 1
  generalize y.cells = ys at *
  generalize y.cell 0 = k0 at *
  generalize y.cell 1 = k1 at *
  generalize x.cells a0 a1 a2 c0 c1 c2 = xs at *
  go_enter Tryz.func10, Tryz.ntmps10
  go_upto_region 1 with (fail)
  have hb0 : Below w.heap.size w ((w.alloc (.cells xs 27)).alloc (.cells ys 61)) := below_alloc (below_alloc (Below.refl _ _) _) _
  have hX0 : ((w.alloc (.cells xs 27)).alloc (.cells ys 61)).heap[w.heap.size]? = some (.cells xs 27 (0, 0)) := hp_old_at (World.alloc_heap_new _ _)
  have hY0 : ((w.alloc (.cells xs 27)).alloc (.cells ys 61)).heap[w.heap.size + 1]? = some (.cells ys 61 (0, 0)) := hp_new_at _ _ (by simp)
  generalize ((w.alloc (.cells xs 27)).alloc (.cells ys 61)) = w0 at *
  go_wp2_with fail
  refine (sanity_any w0 (hL.up hb0)).mono ?_
  rintro e w1 ⟨rfl, hb1⟩
  have hX1 := (hb1.block _ (bx_lt hX0)).trans hX0
  have hY1 := (hb1.block _ (bx_lt hY0)).trans hY0
  have hbw1 := below_step hb0 hb1
  have hI1 := hI.up hN hbw1
  have hN1 := Nat.le_trans hN hbw1.size
  have HE1 := Lib.hid (hL.up hbw1)
  clear hX0 hY0 hb0 hb1 hI hL
  by_cases hu : 40 < u.length
  · have t1 : decide ((40 : Int) < (u.length : Int)) = true := by rw [decide_eq_true_eq]; omega
    have t1' : decide (40 < u.length) = true := by simpa using hu
    have HB := Lib.hid hbw1
    clear hX1 hY1 hI1 hbw1
    go_wp2
    go_ret
    exact ⟨rfl, HB.out⟩
  have t1 : decide ((40 : Int) < (u.length : Int)) = false := by rw [decide_eq_false_iff_not]; omega
  have t1' : decide (40 < u.length) = false := by simpa using hu
  go_upto_region 4 with (fail)
  clear t1 t1'
  go_wp2_with (with_reducible refine wpList_load_row rfl 27 (.tmp 3) rfl w.heap.size rfl 27 xs (0, 0) _ hX1 Tryz.underlying27 rfl (by rw [hsx]; exact info_raw3) ?_)
  refine (HMG.out _ hN1 hI1).mono ?_
  rintro e w2 ⟨bc, r, ks, an, at_, ak, ac, ln, cn, lt, ct, ck, lc, cc, mu, bl, en, rfl, hK, hbc, hr, hks, hb2⟩
  have hY2 := (hb2.block _ (bx_lt hY1)).trans hY1
  have hbw2 := below_step hbw1 hb2
  have HE2 := Lib.hid (HE1.out.up hb2)
  have hwg := hbw2.size
  clear hX1 hY1 hb2 hI1 HMG hbw1 hN1 HE1
  go_upto_region 5 with (fail)
  have hG3 : (w2.alloc (.cells #[.int .i64 (bc : Int), .slice an ln cn, .slice at_ lt ct, .slice ak ks.length ck, .int .i64 (r : Int), .bool mu, .slice ac lc cc, .int .i64 bl, .int .i64 en] 41)).heap[w2.heap.size]? = some (.cells #[.int .i64 (bc : Int), .slice an ln cn, .slice at_ lt ct, .slice ak ks.length ck, .int .i64 (r : Int), .bool mu, .slice ac lc cc, .int .i64 bl, .int .i64 en] 41 (0, 0)) := World.alloc_heap_new _ _
  have hb23 := below_alloc (Below.refl _ w2) (.cells #[.int .i64 (bc : Int), .slice an ln cn, .slice at_ lt ct, .slice ak ks.length ck, .int .i64 (r : Int), .bool mu, .slice ac lc cc, .int .i64 bl, .int .i64 en] 41)
  have hY3 := (hb23.block _ (bx_lt hY2)).trans hY2
  have hK3 := hK.below hb23
  have hbw3 := below_step hbw2 hb23
  have HE3 := Lib.hid (HE2.out.up hb23)
  have hN3 := hb23.size
  generalize (w2.alloc (.cells #[.int .i64 (bc : Int), .slice an ln cn, .slice at_ lt ct, .slice ak ks.length ck, .int .i64 (r : Int), .bool mu, .slice ac lc cc, .int .i64 bl, .int .i64 en] 41)) = w3 at *
  generalize w2.heap.size = gb at *
  clear hY2 hK hb23 hbw2 HE2
  have HS := Lib.hid (fun W (h : Below w3.heap.size w3 W) => (⟨(h.block _ (bx_lt hG3)).trans hG3, (h.block _ (bx_lt hY3)).trans hY3⟩ : W.heap[gb]? = some (.cells #[.int .i64 (bc : Int), .slice an ln cn, .slice at_ lt ct, .slice ak ks.length ck, .int .i64 (r : Int), .bool mu, .slice ac lc cc, .int .i64 bl, .int .i64 en] 41 (0, 0)) ∧ W.heap[w.heap.size + 1]? = some (.cells ys 61 (0, 0))))
  have hd3 : Below w3.heap.size w3 w3.drew := (Below.refl _ w3).drew
  refine wp_region_held_drew (S := fun W => W.heap[gb]? = some (.cells #[.int .i64 (bc : Int), .slice an ln cn, .slice at_ lt ct, .slice ak ks.length ck, .int .i64 (r : Int), .bool mu, .slice ac lc cc, .int .i64 bl, .int .i64 en] 41 (0, 0)) ∧ W.heap[w.heap.size + 1]? = some (.cells ys 61 (0, 0))) (by as_aux_lemma => kernel_rfl) (HS.out _ hd3) (fun hHeld => ?_)
  clear hG3 hY3
  generalize w3.drew = w4 at *
  refine wpAnyH_take (i := 0) (oi := { dst := some 24, op := Op.load 41 (Operand.tmp 8), type := 41, pos := "law.go:224", after := #[], guard := none }) (v := .agg #[.int .i64 (bc : Int), .slice an ln cn, .slice at_ lt ct, .slice ak ks.length ck, .int .i64 (r : Int), .bool mu, .slice ac lc cc, .int .i64 bl, .int .i64 en]) rfl (by as_aux_lemma => kernel_rfl) (by as_aux_lemma => kernel_rfl) (by as_aux_lemma => kernel_rfl) (fun _ _ _ h => h) (yieldsIf_load_mid rfl 41 (.tmp 8) rfl gb 0 rfl [.int .i64 (bc : Int), .slice an ln cn, .slice at_ lt ct, .slice ak ks.length ck, .int .i64 (r : Int), .bool mu, .slice ac lc cc, .int .i64 bl, .int .i64 en] _ (fun W hW => range_of_row hW.1) Tryz.underlying41 rfl info_game9) (by assumption) ?_
  (try simp only [Act.put, List.setIfInBounds_toArray, List.set_cons_zero, List.set_cons_succ])
  refine wpAnyH_take (i := 1) (oi := { dst := some 25, op := Op.load 41 (Operand.tmp 8), type := 41, pos := "law.go:224", after := #[], guard := none }) (v := .agg #[.int .i64 (bc : Int), .slice an ln cn, .slice at_ lt ct, .slice ak ks.length ck, .int .i64 (r : Int), .bool mu, .slice ac lc cc, .int .i64 bl, .int .i64 en]) rfl (by as_aux_lemma => kernel_rfl) (by as_aux_lemma => kernel_rfl) (by as_aux_lemma => kernel_rfl) (fun _ _ _ h => h) (yieldsIf_load_mid rfl 41 (.tmp 8) rfl gb 0 rfl [.int .i64 (bc : Int), .slice an ln cn, .slice at_ lt ct, .slice ak ks.length ck, .int .i64 (r : Int), .bool mu, .slice ac lc cc, .int .i64 bl, .int .i64 en] _ (fun W hW => range_of_row hW.1) Tryz.underlying41 rfl info_game9) (by assumption) ?_
  (try simp only [Act.put, List.setIfInBounds_toArray, List.set_cons_zero, List.set_cons_succ])
  refine wpAnyH_take (i := 2) (oi := { dst := some 26, op := Op.load 61 (Operand.tmp 4), type := 61, pos := "law.go:224", after := #[], guard := none }) (v := .agg ys.toList.toArray) rfl (by as_aux_lemma => kernel_rfl) (by as_aux_lemma => kernel_rfl) (by as_aux_lemma => kernel_rfl) (fun _ _ _ h => h) (yieldsIf_load_mid rfl 61 (.tmp 4) rfl (w.heap.size + 1) 0 rfl ys.toList _ (fun W hW => range_of_row (by rw [Array.toArray_toList]; exact hW.2)) Tryz.underlying61 rfl (by rw [Array.length_toList, hsys]; exact info_raw4)) (by assumption) ?_
  (try simp only [Act.put, List.setIfInBounds_toArray, List.set_cons_zero, List.set_cons_succ])
  rw [Array.toArray_toList]
  refine wpAnyH_ready (rs := [3]) (by as_aux_lemma => kernel_rfl) (by simp) ?_
  refine AllReadyH.cons (o := { dst := some 27, op := Op.call { callee := Callee.value (Operand.func 33), args := #[Operand.tmp 25, Operand.tmp 26], argTypes := #[41, 61] }, type := 32, pos := "law.go:224", after := #[{ on := 1, ground := Ground.data }, { on := 2, ground := Ground.data }], guard := none }) rfl (fun K hK => ?_) AllReadyH.nil
  refine step_call_g rfl 33 _ _ #[.agg #[.int .i64 (bc : Int), .slice an ln cn, .slice at_ lt ct, .slice ak ks.length ck, .int .i64 (r : Int), .bool mu, .slice ac lc cc, .int .i64 bl, .int .i64 en], .agg ys] rfl rfl (enters_of Tryz.func33 (by as_aux_lemma => kernel_rfl) rfl) ((HMY.out bc r ks _ _ _ _ _ _ ak ck gb w4 hbc hr hks (Nat.le_trans hN3 hd3.size) (hK3.below (hd3.mono hN3))).mono ?_)
  rintro e w5 ⟨p, rfl, hpK, hpG, -, hb⟩
  have hd5 := below_step hd3 hb
  refine ⟨_, rfl, hK.out _ _ (HS.out _ hd5) (fun _ => ?_)⟩
  clear hK K hb
  (try simp only [Act.put, List.setIfInBounds_toArray, List.set_cons_zero, List.set_cons_succ])
  have hlp := hpG.all.low hbc.2 hr hks.2
  refine wpAnyH_ready (rs := [4]) (by as_aux_lemma => kernel_rfl) (by simp) ?_
  refine AllReadyH.cons (o := { dst := some 28, op := Op.call { callee := Callee.value (Operand.func 27), args := #[Operand.tmp 24, Operand.tmp 27], argTypes := #[41, 32] }, type := 9, pos := "law.go:224", after := #[{ on := 0, ground := Ground.data }, { on := 3, ground := Ground.data }, { on := 3, ground := Ground.chain }], guard := none }) rfl (fun K hK => ?_) AllReadyH.nil
  refine step_call_g rfl 27 _ _ #[.agg #[.int .i64 (bc : Int), .slice an ln cn, .slice at_ lt ct, .slice ak ks.length ck, .int .i64 (r : Int), .bool mu, .slice ac lc cc, .int .i64 bl, .int .i64 en], .agg #[.slice p.a p.p.cells.length p.c, .slice p.a0 p.p.h0.length p.c0, .slice p.a1 p.p.h1.length p.c1, .int .i64 p.p.rights, .int .i64 p.p.side]] rfl rfl (enters_of Tryz.func27 (by as_aux_lemma => kernel_rfl) rfl) ((rprint_any (.int .i64 (bc : Int)) (.slice an ln cn) (.slice at_ lt ct) (.slice ak ks.length ck) (.int .i64 (r : Int)) (.bool mu) (.slice ac lc cc) (.int .i64 bl) (.int .i64 en) p.p p.a p.a0 p.a1 p.c p.c0 p.c1 w5.heap.size w5 hlp (Nat.le_refl _) hpK.lies).mono ?_)
  rintro e w6 ⟨rfl, hb⟩
  have hd6 := below_step hd5 hb
  refine ⟨_, rfl, hK.out _ _ (HS.out _ hd6) (fun hHeld => ?_)⟩
  clear hK K hb
  (try simp only [Act.put, List.setIfInBounds_toArray, List.set_cons_zero, List.set_cons_succ])
  have hts := text_short hlp
  generalize textP p.p = ts at *
  clear hlp hpK hpG
  refine wpAnyH_take (i := 5) (oi := { dst := some 9, op := Op.assign (Operand.tmp 28), type := 9, pos := "law.go:224", after := #[{ on := 4, ground := Ground.data }, { on := 4, ground := Ground.chain }, { on := 0, ground := Ground.phase }, { on := 1, ground := Ground.phase }, { on := 2, ground := Ground.phase }, { on := 3, ground := Ground.phase }, { on := 4, ground := Ground.phase }], guard := none }) (v := ?_) rfl (by as_aux_lemma => kernel_rfl) (by as_aux_lemma => kernel_rfl) (by as_aux_lemma => kernel_rfl) (fun _ _ _ h => h) (Or.inl ⟨by rfl, ?_⟩) (by assumption) ?_
  rotate_left
  · ((intro w hSw; (try dsimp only at hSw); go_simp); try with_reducible rfl)
  (try simp only [Act.put, List.setIfInBounds_toArray, List.set_cons_zero, List.set_cons_succ])
  refine wpAnyH_done (by as_aux_lemma => kernel_rfl) ?_ _
  have HBW := Lib.hid hbw3
  have HK6 := Lib.hid (hK3.below (hd6.mono hN3))
  have HE6 := Lib.hid (HE3.out.up hd6)
  obtain ⟨hG6, hY6⟩ := HS.out _ hd6
  have hg6 : gb ≤ w6.heap.size := Nat.le_trans hN3 hd6.size
  have hbw6 := below_step hbw3 hd6
  clear hd3 hd5 hd6 hbw3 HBW HE3 hK3 HS hN3 HMY
  have y0 := bx_cell hY6 0 hz0
  have y1 := bx_cell hY6 1 hz1
  have w1 : IntKind.i64.wrap (k0 : Int) = (k0 : Int) := IntWalk.i64_in _ (by omega)
  have w2 : IntKind.i64.wrap ((ts.length : Int) + 1) = (ts.length : Int) + 1 := IntWalk.i64_in _ (by omega)
  have n1 : ((ts.length : Int) + 1 == 0) = false := by rw [beq_eq_false_iff_ne]; omega
  have n2 : ¬ ((ts.length : Int) + 1 = 0) := by omega
  have e1 : (k0 : Int).tmod ((ts.length : Int) + 1) = ((k0 % (ts.length + 1) : Nat) : Int) := by
    rw [Int.tmod_eq_emod_of_nonneg (by omega), Int.natCast_emod, Int.natCast_add]; rfl
  have hat : k0 % (ts.length + 1) ≤ ts.length := by have := Nat.mod_lt k0 (show 0 < ts.length + 1 by omega); omega
  have e2 : (k1 : Int).tmod 5 = ((k1 % 5 : Nat) : Int) := by
    rw [Int.tmod_eq_emod_of_nonneg (by omega), Int.natCast_emod]; rfl
  have w4 : IntKind.u8.wrap ((k1 % 5 : Nat) : Int) = ((k1 % 5 : Nat) : Int) := u8_id _ (by omega)
  have w5 : IntKind.i64.wrap ((k1 % 5 : Nat) : Int) = ((k1 % 5 : Nat) : Int) := IntWalk.i64_in _ (by omega)
  have hk5 : k1 % 5 ≤ 4 := by omega
  generalize k0 % (ts.length + 1) = ia at *
  have w3 : IntKind.i64.wrap (ia : Int) = (ia : Int) := IntWalk.i64_in _ (by omega)
  generalize k1 % 5 = ib at *
  have wz : IntKind.i64.wrap ((ia : Int) + (ib : Int)) = (ia : Int) + (ib : Int) := IntWalk.i64_in _ (by omega)
  have HF := Lib.hid (fun W (h : Below w6.heap.size w6 W) => (h.block _ (bx_lt hG6)).trans hG6)
  clear hG6 hY6
  go_wp2_with fail
  obtain ⟨ie, hie, he5⟩ : ∃ ie : Nat, ie ≤ ts.length ∧ min ((ia : Int) + (ib : Int)) (ts.length : Int) = (ie : Int) := ⟨min (ia + ib) ts.length, by omega, by omega⟩
  rw [he5]
  clear he5 w1 w2 w3 w4 w5 wz n1 n2 e1 e2 y0 y1
  have d1 : (0 : Int) ≤ (ia : Int) := by omega
  have d2 : (ia : Int) ≤ (ts.length : Int) := by omega
  have d3 : (0 : Int) ≤ (ie : Int) := by omega
  have d4 : (ie : Int) ≤ (ts.length : Int) := by omega
  refine wp_region_quiet_tail 16 (fun W => W = w6.drew) rfl (by as_aux_lemma => kernel_rfl) (by as_aux_lemma => kernel_rfl) ?_
  have hdr : Below w6.heap.size w6 w6.drew := (Below.refl _ w6).drew
  generalize w6.drew = w7 at *
  simp only [List.take_succ_cons, List.take_zero, List.drop_succ_cons, List.drop_zero]
  have z1 : ¬ 9223372036854775807 < ia + u.length := by omega
  have z2 : ¬ 9223372036854775807 < ia + u.length + (ts.length - ie) := by omega
  have z3 : ¬ 9223372036854775807 < ts.length + u.length := by omega
  iterate 16
    refine wpQuiet_val (v := ?_) (by rfl) ?_ ?_
    rotate_left
    · ((intro W hW; (try cases hW); go_simp); try with_reducible rfl)
    (try simp only [Act.put, List.setIfInBounds_toArray, List.set_cons_zero, List.set_cons_succ])
  clear z1 z2 z3
  refine wpQuiet_nil (fun W hW => ?_)
  obtain rfl : w7 = W := hW.symm
  clear hW
  obtain ⟨T1, hT1, hl1⟩ := bytes_list ((⟨ts.toArray⟩ : ByteArray).extract 0 ia ++ ⟨u.toArray⟩ ++ (⟨ts.toArray⟩ : ByteArray).extract ie ts.length) 1000000 (by
    rw [ByteArray.size_append, ByteArray.size_append, ByteArray.size_extract, ByteArray.size_extract]
    have h2 : (⟨u.toArray⟩ : ByteArray).size = u.length := by simp [ByteArray.size]
    have h3 : (⟨ts.toArray⟩ : ByteArray).size = ts.length := by simp [ByteArray.size]
    omega)
  obtain ⟨T2, hT2, hl2⟩ := bytes_list ((⟨ts.toArray⟩ : ByteArray).extract 0 ia) 1000000 (by
    rw [ByteArray.size_extract]
    have h3 : (⟨ts.toArray⟩ : ByteArray).size = ts.length := by simp [ByteArray.size]
    omega)
  obtain ⟨T3, hT3, hl3⟩ := bytes_list ((⟨ts.toArray⟩ : ByteArray) ++ ⟨u.toArray⟩) 1000000 (by
    rw [ByteArray.size_append]
    have h2 : (⟨u.toArray⟩ : ByteArray).size = u.length := by simp [ByteArray.size]
    have h3 : (⟨ts.toArray⟩ : ByteArray).size = ts.length := by simp [ByteArray.size]
    omega)
  rw [hT1, hT2, hT3]
  clear hT1 hT2 hT3 d1 d2 d3 d4
  go_wp2_with fail
  have htb : (w7.alloc (.cells #[.string ⟨u.toArray⟩, .string ⟨T1.toArray⟩, .string ⟨T2.toArray⟩, .string ⟨T3.toArray⟩] 9)).heap[w7.heap.size]? = some (.cells #[.string ⟨u.toArray⟩, .string ⟨T1.toArray⟩, .string ⟨T2.toArray⟩, .string ⟨T3.toArray⟩] 9 (0, 0)) := World.alloc_heap_new _ _
  have hb78 := below_step hdr (below_alloc (Below.refl _ w7) (.cells #[.string ⟨u.toArray⟩, .string ⟨T1.toArray⟩, .string ⟨T2.toArray⟩, .string ⟨T3.toArray⟩] 9))
  generalize w7.alloc (.cells #[.string ⟨u.toArray⟩, .string ⟨T1.toArray⟩, .string ⟨T2.toArray⟩, .string ⟨T3.toArray⟩] 9) = w8 at *
  generalize w7.heap.size = tb at *
  have HT : Hid (∀ i : Nat, i < 4 → ∃ t : List UInt8, t.length ≤ 1000000 ∧ ∀ W, Below w8.heap.size w8 W → W.cell? ⟨tb, i, none⟩ = some (.string ⟨t.toArray⟩)) := Lib.hid (by
    intro i hi
    have hk : ∀ (W : World), Below w8.heap.size w8 W → W.heap[tb]? = some (.cells #[.string ⟨u.toArray⟩, .string ⟨T1.toArray⟩, .string ⟨T2.toArray⟩, .string ⟨T3.toArray⟩] 9 (0, 0)) := fun W h => (h.block _ (bx_lt htb)).trans htb
    rcases (show i = 0 ∨ i = 1 ∨ i = 2 ∨ i = 3 by omega) with rfl | rfl | rfl | rfl
    · exact ⟨u, by omega, fun W h => bx_cell (hk W h) 0 rfl⟩
    · exact ⟨T1, hl1, fun W h => bx_cell (hk W h) 1 rfl⟩
    · exact ⟨T2, hl2, fun W h => bx_cell (hk W h) 2 rfl⟩
    · exact ⟨T3, hl3, fun W h => bx_cell (hk W h) 3 rfl⟩)
  have HBW := Lib.hid (below_step hbw6 hb78)
  have HF8 := Lib.hid (fun W (h : Below w8.heap.size w8 W) => HF.out W (below_step hb78 h))
  have hg8 : gb ≤ w8.heap.size := Nat.le_trans hg6 hb78.size
  have HPA := Lib.hid (fun s W (h : Below w8.heap.size w8 W) (hl : s.length ≤ 1000000) => parse_all bc r ks (.slice an ln cn) (.slice at_ lt ct) (.bool mu) (.slice ac lc cc) (.int .i64 bl) (.int .i64 en) ak ck gb s W (by omega) (by omega) (Nat.le_trans hg8 h.size) (HK6.out.below ((below_step hb78 h).mono hg6)) (HE6.out.up (below_step hb78 h)) hl)
  have HRA := Lib.hid (fun s W (h : Below w8.heap.size w8 W) (hl : s.length ≤ 1000000) => rparseA bc r ks (.slice an ln cn) (.slice at_ lt ct) (.bool mu) (.slice ac lc cc) (.int .i64 bl) (.int .i64 en) ak ck gb s W hbc.2 hr hks.2 (Nat.le_trans hg8 h.size) (HK6.out.below ((below_step hb78 h).mono hg6)) hl)
  clear htb hb78 hdr hl1 hl2 hl3 HF HK6 HE6 hHeld hbw6 hg6
  go_wp2_with fail
  go_loopw [13, 14, 15, 16] (fun v13 _ _ _ wr => ∃ i : Nat, i ≤ 4 ∧ v13 = .int .i64 (i : Int) ∧ Below w8.heap.size w8 wr) (fun v13 _ _ _ _ => (4 - intOf v13).toNat)
  case atStart => exact ⟨0, by omega, rfl, Below.refl _ _⟩
  case round =>
    obtain ⟨i, hi, rfl, hbw⟩ := hrel
    by_cases hlt : i < 4
    · obtain ⟨t, htl, htc⟩ := HT.out i hlt
      have t3 : decide ((i : Int) < 4) = true := by rw [decide_eq_true_eq]; omega
      have t3' : decide (i < 4) = true := by simpa using hlt
      have b3 : (0 : Int) ≤ (i : Int) := by omega
      have b4 : (i : Int) < 4 := by omega
      have HSW := Lib.hid (fun W (h : Below w8.heap.size w8 W) => (⟨HF8.out W h, htc W h⟩ : W.heap[gb]? = some (.cells #[.int .i64 (bc : Int), .slice an ln cn, .slice at_ lt ct, .slice ak ks.length ck, .int .i64 (r : Int), .bool mu, .slice ac lc cc, .int .i64 bl, .int .i64 en] 41 (0, 0)) ∧ W.cell? ⟨tb, i, none⟩ = some (.string ⟨t.toArray⟩)))
      have HP1 := Lib.hid (fun W h => HPA.out t W h htl)
      have HP2 := Lib.hid (fun W h => HRA.out t W h htl)
      have hfit := parsedP_fit bc r ks t t
      generalize parsedP bc r ks (readP t) t = PP at *
      generalize parsedE bc r ks (readP t) t = EE at *
      clear htc
      go_upto_region 12 with (fail)
      go_cut [14, 15] from 70 to 78 (fun s14 s15 wx => ∃ (ab : Nat) (v : PosA), s14 = .pointer (some ⟨ab, 0, none⟩) ∧ s15 = .int .i64 EE ∧ wx.heap[ab]? = some (.cells #[.slice v.a v.p.cells.length v.c, .slice v.a0 v.p.h0.length v.c0, .slice v.a1 v.p.h1.length v.c1, .int .i64 v.p.rights, .int .i64 v.p.side] 32 (0, 0)) ∧ PosOwn w8.heap.size wx v.a v.a0 v.a1 v.c v.c0 v.c1 v.p ∧ v.p = PP ∧ Below w8.heap.size w8 wx)
      case first =>
        have hr0 : Below wr.heap.size wr wr.drew := (Below.refl _ wr).drew
        have HSR := Lib.hid (fun W (h : Below wr.heap.size wr W) => HSW.out W (below_step hbw h))
        refine wp_region_held_drew (S := fun W => W.heap[gb]? = some (.cells #[.int .i64 (bc : Int), .slice an ln cn, .slice at_ lt ct, .slice ak ks.length ck, .int .i64 (r : Int), .bool mu, .slice ac lc cc, .int .i64 bl, .int .i64 en] 41 (0, 0)) ∧ W.cell? ⟨tb, i, none⟩ = some (.string ⟨t.toArray⟩)) (by as_aux_lemma => kernel_rfl) (HSR.out _ hr0) (fun hHeld => ?_)
        generalize wr.drew = wD at *
        refine wpAnyH_take (i := 0) (oi := { dst := some 71, op := Op.load 41 (Operand.tmp 8), type := 41, pos := "law.go:229", after := #[], guard := none }) (v := .agg #[.int .i64 (bc : Int), .slice an ln cn, .slice at_ lt ct, .slice ak ks.length ck, .int .i64 (r : Int), .bool mu, .slice ac lc cc, .int .i64 bl, .int .i64 en]) rfl (by as_aux_lemma => kernel_rfl) (by as_aux_lemma => kernel_rfl) (by as_aux_lemma => kernel_rfl) (fun _ _ _ h => h) (yieldsIf_load_mid rfl 41 (.tmp 8) rfl gb 0 rfl [.int .i64 (bc : Int), .slice an ln cn, .slice at_ lt ct, .slice ak ks.length ck, .int .i64 (r : Int), .bool mu, .slice ac lc cc, .int .i64 bl, .int .i64 en] _ (fun W hW => range_of_row hW.1) Tryz.underlying41 rfl info_game9) (by assumption) ?_
        (try simp only [Act.put, List.setIfInBounds_toArray, List.set_cons_zero, List.set_cons_succ])
        refine wpAnyH_take (i := 1) (oi := { dst := some 72, op := Op.move (Operand.tmp 12), type := 72, pos := "law.go:229", after := #[], guard := none }) (v := ?_) rfl (by as_aux_lemma => kernel_rfl) (by as_aux_lemma => kernel_rfl) (by as_aux_lemma => kernel_rfl) (fun _ _ _ h => h) (Or.inl ⟨by rfl, ?_⟩) (by assumption) ?_
        rotate_left
        · ((intro w hSw; (try dsimp only at hSw); go_simp); try with_reducible rfl)
        (try simp only [Act.put, List.setIfInBounds_toArray, List.set_cons_zero, List.set_cons_succ])
        refine wpAnyH_take (i := 2) (oi := { dst := some 73, op := Op.move (Operand.tmp 13), type := 3, pos := "law.go:229", after := #[], guard := none }) (v := ?_) rfl (by as_aux_lemma => kernel_rfl) (by as_aux_lemma => kernel_rfl) (by as_aux_lemma => kernel_rfl) (fun _ _ _ h => h) (Or.inl ⟨by rfl, ?_⟩) (by assumption) ?_
        rotate_left
        · ((intro w hSw; (try dsimp only at hSw); go_simp); try with_reducible rfl)
        (try simp only [Act.put, List.setIfInBounds_toArray, List.set_cons_zero, List.set_cons_succ])
        refine wpAnyH_take (i := 3) (oi := { dst := some 74, op := Op.indexAddr 72 (Operand.tmp 72) (Operand.tmp 73), type := 0, pos := "law.go:229", after := #[{ on := 1, ground := Ground.data }, { on := 2, ground := Ground.data }], guard := none }) (v := ?_) rfl (by as_aux_lemma => kernel_rfl) (by as_aux_lemma => kernel_rfl) (by as_aux_lemma => kernel_rfl) (fun _ _ _ h => h) (Or.inl ⟨by rfl, ?_⟩) (by assumption) ?_
        rotate_left
        · ((intro w hSw; (try dsimp only at hSw); go_simp); try with_reducible rfl)
        (try simp only [Act.put, List.setIfInBounds_toArray, List.set_cons_zero, List.set_cons_succ])
        refine wpAnyH_take (i := 4) (oi := { dst := some 75, op := Op.load 9 (Operand.tmp 74), type := 9, pos := "law.go:229", after := #[{ on := 3, ground := Ground.data }], guard := none }) (v := ?_) rfl (by as_aux_lemma => kernel_rfl) (by as_aux_lemma => kernel_rfl) (by as_aux_lemma => kernel_rfl) (fun _ _ _ h => h) (Or.inl ⟨by rfl, ?_⟩) (by assumption) ?_
        rotate_left
        · ((intro w hSw; (try dsimp only at hSw); go_simp); try with_reducible rfl)
        (try simp only [Act.put, List.setIfInBounds_toArray, List.set_cons_zero, List.set_cons_succ])
        refine wpAnyH_ready (rs := [5, 9]) (by as_aux_lemma => kernel_rfl) (by simp) ?_
        refine AllReadyH.cons (o := { dst := some 76, op := Op.call { callee := Callee.value (Operand.func 34), args := #[Operand.tmp 71, Operand.tmp 75], argTypes := #[41, 9] }, type := 69, pos := "law.go:229", after := #[{ on := 0, ground := Ground.data }, { on := 4, ground := Ground.data }], guard := none }) rfl (fun K hK => ?_) (AllReadyH.cons (o := { dst := some 14, op := Op.alloc 32, type := 0, pos := "law.go:229", after := #[], guard := none }) rfl (fun K hK => ?_) AllReadyH.nil)
        · skip
          refine step_call_g rfl 34 _ _ #[.agg #[.int .i64 (bc : Int), .slice an ln cn, .slice at_ lt ct, .slice ak ks.length ck, .int .i64 (r : Int), .bool mu, .slice ac lc cc, .int .i64 bl, .int .i64 en], .string ⟨t.toArray⟩] rfl rfl (enters_of Tryz.func34 (by as_aux_lemma => kernel_rfl) rfl) ((HP1.out wD (below_step hbw hr0)).mono ?_)
          rintro e wE ⟨qa, qa0, qa1, qc, qc0, qc1, rfl, hO, hb⟩
          unfold PosV
          have hrE := below_step hr0 hb
          refine ⟨_, rfl, hK.out _ _ (HSR.out _ hrE) (fun _ => ?_)⟩
          clear hK K
          (try simp only [Act.put, List.setIfInBounds_toArray, List.set_cons_zero, List.set_cons_succ])
          refine wpAnyH_take (i := 6) (oi := { dst := some 70, op := Op.move (Operand.tmp 76), type := 69, pos := "law.go:229", after := #[{ on := 5, ground := Ground.data }], guard := none }) (v := ?_) rfl (by as_aux_lemma => kernel_rfl) (by as_aux_lemma => kernel_rfl) (by as_aux_lemma => kernel_rfl) (fun _ _ _ h => h) (Or.inl ⟨by rfl, ?_⟩) (by assumption) ?_
          rotate_left
          · ((intro w hSw; (try dsimp only at hSw); go_simp); try with_reducible rfl)
          (try simp only [Act.put, List.setIfInBounds_toArray, List.set_cons_zero, List.set_cons_succ])
          refine wpAnyH_take (i := 7) (oi := { dst := some 77, op := Op.extract (Operand.tmp 70) 0, type := 32, pos := "law.go:229", after := #[{ on := 6, ground := Ground.data }], guard := none }) (v := ?_) rfl (by as_aux_lemma => kernel_rfl) (by as_aux_lemma => kernel_rfl) (by as_aux_lemma => kernel_rfl) (fun _ _ _ h => h) (Or.inl ⟨by rfl, ?_⟩) (by assumption) ?_
          rotate_left
          · ((intro w hSw; (try dsimp only at hSw); go_simp); try with_reducible rfl)
          (try simp only [Act.put, List.setIfInBounds_toArray, List.set_cons_zero, List.set_cons_succ])
          refine wpAnyH_take (i := 8) (oi := { dst := some 78, op := Op.extract (Operand.tmp 70) 1, type := 68, pos := "law.go:229", after := #[{ on := 6, ground := Ground.data }, { on := 10, ground := Ground.gcOnly Departure.lateStores }], guard := none }) (v := ?_) rfl (by as_aux_lemma => kernel_rfl) (by as_aux_lemma => kernel_rfl) (by as_aux_lemma => kernel_rfl) (fun _ _ _ h => h) (Or.inl ⟨by rfl, ?_⟩) (by assumption) ?_
          rotate_left
          · ((intro w hSw; (try dsimp only at hSw); go_simp); try with_reducible rfl)
          (try simp only [Act.put, List.setIfInBounds_toArray, List.set_cons_zero, List.set_cons_succ])
          refine wpAnyH_ready (rs := [9]) (by as_aux_lemma => kernel_rfl) (by simp) ?_
          refine AllReadyH.cons (o := { dst := some 14, op := Op.alloc 32, type := 0, pos := "law.go:229", after := #[], guard := none }) rfl (fun K hK => ?_) AllReadyH.nil
          go_simp
          have hX : (wE.alloc (.cells #[.slice none 0 0, .slice none 0 0, .slice none 0 0, .int .i64 0, .int .i64 0] 32)).heap[wE.heap.size]? = some (.cells #[.slice none 0 0, .slice none 0 0, .slice none 0 0, .int .i64 0, .int .i64 0] 32 (0, 0)) := World.alloc_heap_new _ _
          have hba := below_alloc (Below.refl _ wE) (.cells #[.slice none 0 0, .slice none 0 0, .slice none 0 0, .int .i64 0, .int .i64 0] 32)
          have hrX := below_step hrE hba
          refine hK.out _ _ (HSR.out _ hrX) (fun _ => ?_)
          clear hK K
          (try simp only [Act.put, List.setIfInBounds_toArray, List.set_cons_zero, List.set_cons_succ])
          have hcb : wr.heap.size ≤ wE.heap.size := hrE.size
          obtain ⟨cb, hcbe⟩ : ∃ cb, wE.heap.size = cb := ⟨_, rfl⟩
          rw [hcbe] at hX hcb
          simp only [hcbe]
          have HCB := Lib.hid hcbe
          clear hcbe
          generalize wE.alloc (.cells #[.slice none 0 0, .slice none 0 0, .slice none 0 0, .int .i64 0, .int .i64 0] 32) = wX at *
          have c0 := bx_cell hX 0 rfl
          have f0 := bx_frozen hX 0
          have c1 := bx_cell hX 1 rfl
          have f1 := bx_frozen hX 1
          have c2 := bx_cell hX 2 rfl
          have f2 := bx_frozen hX 2
          have c3 := bx_cell hX 3 rfl
          have f3 := bx_frozen hX 3
          have c4 := bx_cell hX 4 rfl
          have f4 := bx_frozen hX 4
          have h9 := set5_block hX (.slice qa PP.cells.length qc) (.slice qa0 PP.h0.length qc0) (.slice qa1 PP.h1.length qc1) (.int .i64 PP.rights) (.int .i64 PP.side)
          have hal := set5_alters wX cb (.slice qa PP.cells.length qc) (.slice qa0 PP.h0.length qc0) (.slice qa1 PP.h1.length qc1) (.int .i64 PP.rights) (.int .i64 PP.side)
          have hb9 : Below wr.heap.size wr (set5 wX cb (.slice qa PP.cells.length qc) (.slice qa0 PP.h0.length qc0) (.slice qa1 PP.h1.length qc1) (.int .i64 PP.rights) (.int .i64 PP.side)) := hrX.trans (hal.below hrX.size (fun k hk => by have hk : k = cb := hk; omega))
          have hO9 := (hO.past ((Alters.of_below hba).trans hal) (fun k hk => .inr (by have hk : k = cb := hk; have := HCB.out; omega))).mono (Nat.le_trans hbw.size hr0.size)
          refine wpAnyH_ready (rs := [10]) (by as_aux_lemma => kernel_rfl) (by simp) ?_
          refine AllReadyH.cons (o := { dst := none, op := Op.store 32 (Operand.tmp 14) (Operand.tmp 77), type := 0, pos := "law.go:229", after := #[{ on := 9, ground := Ground.data }, { on := 7, ground := Ground.data }, { on := 5, ground := Ground.chain }, { on := 0, ground := Ground.phase }, { on := 1, ground := Ground.phase }, { on := 2, ground := Ground.phase }, { on := 3, ground := Ground.phase }, { on := 4, ground := Ground.phase }, { on := 5, ground := Ground.phase }, { on := 6, ground := Ground.phase }, { on := 7, ground := Ground.phase }, { on := 8, ground := Ground.textOnly Departure.lateStores }, { on := 9, ground := Ground.phase }], guard := none }) rfl (fun K hK => ?_) AllReadyH.nil
          go_simp
          refine hK.out _ _ (HSR.out _ hb9) (fun _ => ?_)
          clear hK K
          (try simp only [Act.put, List.setIfInBounds_toArray, List.set_cons_zero, List.set_cons_succ])
          refine wpAnyH_take (i := 11) (oi := { dst := some 15, op := Op.assign (Operand.tmp 78), type := 68, pos := "law.go:229", after := #[{ on := 8, ground := Ground.data }, { on := 10, ground := Ground.chain }, { on := 0, ground := Ground.phase }, { on := 1, ground := Ground.phase }, { on := 2, ground := Ground.phase }, { on := 3, ground := Ground.phase }, { on := 4, ground := Ground.phase }, { on := 5, ground := Ground.phase }, { on := 6, ground := Ground.phase }, { on := 7, ground := Ground.phase }, { on := 8, ground := Ground.phase }, { on := 9, ground := Ground.phase }, { on := 10, ground := Ground.phase }], guard := none }) (v := ?_) rfl (by as_aux_lemma => kernel_rfl) (by as_aux_lemma => kernel_rfl) (by as_aux_lemma => kernel_rfl) (fun _ _ _ h => h) (Or.inl ⟨by rfl, ?_⟩) (by assumption) ?_
          rotate_left
          · ((intro w hSw; (try dsimp only at hSw); go_simp); try with_reducible rfl)
          (try simp only [Act.put, List.setIfInBounds_toArray, List.set_cons_zero, List.set_cons_succ])
          refine wpAnyH_done (by as_aux_lemma => kernel_rfl) ?_ _
          clear c0 f0 c1 f1 c2 f2 c3 f3 c4 f4
          go_wp2_with fail
          go_meet
          exact ⟨cb, ⟨PP, qa, qa0, qa1, qc, qc0, qc1⟩, rfl, rfl, h9, hO9, rfl, below_step hbw hb9⟩
        · skip
          go_simp
          have hX0 : (wD.alloc (.cells #[.slice none 0 0, .slice none 0 0, .slice none 0 0, .int .i64 0, .int .i64 0] 32)).heap[wD.heap.size]? = some (.cells #[.slice none 0 0, .slice none 0 0, .slice none 0 0, .int .i64 0, .int .i64 0] 32 (0, 0)) := World.alloc_heap_new _ _
          have hba := below_alloc (Below.refl _ wD) (.cells #[.slice none 0 0, .slice none 0 0, .slice none 0 0, .int .i64 0, .int .i64 0] 32)
          have hrA := below_step hr0 hba
          have hsz : (wD.alloc (.cells #[.slice none 0 0, .slice none 0 0, .slice none 0 0, .int .i64 0, .int .i64 0] 32)).heap.size = wD.heap.size + 1 := by simp
          refine hK.out _ _ (HSR.out _ hrA) (fun _ => ?_)
          clear hK K
          (try simp only [Act.put, List.setIfInBounds_toArray, List.set_cons_zero, List.set_cons_succ])
          have hcb : wr.heap.size ≤ wD.heap.size := hr0.size
          obtain ⟨cb, hcbe⟩ : ∃ cb, wD.heap.size = cb := ⟨_, rfl⟩
          rw [hcbe] at hX0 hcb hsz
          simp only [hcbe]
          have HCB := Lib.hid hcbe
          clear hcbe
          generalize wD.alloc (.cells #[.slice none 0 0, .slice none 0 0, .slice none 0 0, .int .i64 0, .int .i64 0] 32) = wA at *
          refine wpAnyH_ready (rs := [5]) (by as_aux_lemma => kernel_rfl) (by simp) ?_
          refine AllReadyH.cons (o := { dst := some 76, op := Op.call { callee := Callee.value (Operand.func 34), args := #[Operand.tmp 71, Operand.tmp 75], argTypes := #[41, 9] }, type := 69, pos := "law.go:229", after := #[{ on := 0, ground := Ground.data }, { on := 4, ground := Ground.data }], guard := none }) rfl (fun K hK => ?_) AllReadyH.nil
          refine step_call_g rfl 34 _ _ #[.agg #[.int .i64 (bc : Int), .slice an ln cn, .slice at_ lt ct, .slice ak ks.length ck, .int .i64 (r : Int), .bool mu, .slice ac lc cc, .int .i64 bl, .int .i64 en], .string ⟨t.toArray⟩] rfl rfl (enters_of Tryz.func34 (by as_aux_lemma => kernel_rfl) rfl) ((HP1.out wA (below_step hbw hrA)).mono ?_)
          rintro e wE ⟨qa, qa0, qa1, qc, qc0, qc1, rfl, hO, hb⟩
          unfold PosV
          have hrX := below_step hrA hb
          refine ⟨_, rfl, hK.out _ _ (HSR.out _ hrX) (fun _ => ?_)⟩
          clear hK K
          (try simp only [Act.put, List.setIfInBounds_toArray, List.set_cons_zero, List.set_cons_succ])
          refine wpAnyH_take (i := 6) (oi := { dst := some 70, op := Op.move (Operand.tmp 76), type := 69, pos := "law.go:229", after := #[{ on := 5, ground := Ground.data }], guard := none }) (v := ?_) rfl (by as_aux_lemma => kernel_rfl) (by as_aux_lemma => kernel_rfl) (by as_aux_lemma => kernel_rfl) (fun _ _ _ h => h) (Or.inl ⟨by rfl, ?_⟩) (by assumption) ?_
          rotate_left
          · ((intro w hSw; (try dsimp only at hSw); go_simp); try with_reducible rfl)
          (try simp only [Act.put, List.setIfInBounds_toArray, List.set_cons_zero, List.set_cons_succ])
          refine wpAnyH_take (i := 7) (oi := { dst := some 77, op := Op.extract (Operand.tmp 70) 0, type := 32, pos := "law.go:229", after := #[{ on := 6, ground := Ground.data }], guard := none }) (v := ?_) rfl (by as_aux_lemma => kernel_rfl) (by as_aux_lemma => kernel_rfl) (by as_aux_lemma => kernel_rfl) (fun _ _ _ h => h) (Or.inl ⟨by rfl, ?_⟩) (by assumption) ?_
          rotate_left
          · ((intro w hSw; (try dsimp only at hSw); go_simp); try with_reducible rfl)
          (try simp only [Act.put, List.setIfInBounds_toArray, List.set_cons_zero, List.set_cons_succ])
          refine wpAnyH_take (i := 8) (oi := { dst := some 78, op := Op.extract (Operand.tmp 70) 1, type := 68, pos := "law.go:229", after := #[{ on := 6, ground := Ground.data }, { on := 10, ground := Ground.gcOnly Departure.lateStores }], guard := none }) (v := ?_) rfl (by as_aux_lemma => kernel_rfl) (by as_aux_lemma => kernel_rfl) (by as_aux_lemma => kernel_rfl) (fun _ _ _ h => h) (Or.inl ⟨by rfl, ?_⟩) (by assumption) ?_
          rotate_left
          · ((intro w hSw; (try dsimp only at hSw); go_simp); try with_reducible rfl)
          (try simp only [Act.put, List.setIfInBounds_toArray, List.set_cons_zero, List.set_cons_succ])
          have hX := (hb.block _ (bx_lt hX0)).trans hX0
          obtain ⟨wX, hwX⟩ : ∃ wX, wE = wX := ⟨_, rfl⟩
          subst hwX
          have c0 := bx_cell hX 0 rfl
          have f0 := bx_frozen hX 0
          have c1 := bx_cell hX 1 rfl
          have f1 := bx_frozen hX 1
          have c2 := bx_cell hX 2 rfl
          have f2 := bx_frozen hX 2
          have c3 := bx_cell hX 3 rfl
          have f3 := bx_frozen hX 3
          have c4 := bx_cell hX 4 rfl
          have f4 := bx_frozen hX 4
          have h9 := set5_block hX (.slice qa PP.cells.length qc) (.slice qa0 PP.h0.length qc0) (.slice qa1 PP.h1.length qc1) (.int .i64 PP.rights) (.int .i64 PP.side)
          have hal := set5_alters wE cb (.slice qa PP.cells.length qc) (.slice qa0 PP.h0.length qc0) (.slice qa1 PP.h1.length qc1) (.int .i64 PP.rights) (.int .i64 PP.side)
          have hb9 : Below wr.heap.size wr (set5 wE cb (.slice qa PP.cells.length qc) (.slice qa0 PP.h0.length qc0) (.slice qa1 PP.h1.length qc1) (.int .i64 PP.rights) (.int .i64 PP.side)) := hrX.trans (hal.below hrX.size (fun k hk => by have hk : k = cb := hk; omega))
          have hO9 := (hO.past hal (fun k hk => .inl (by have hk : k = cb := hk; omega))).mono (Nat.le_trans hbw.size hrA.size)
          refine wpAnyH_ready (rs := [10]) (by as_aux_lemma => kernel_rfl) (by simp) ?_
          refine AllReadyH.cons (o := { dst := none, op := Op.store 32 (Operand.tmp 14) (Operand.tmp 77), type := 0, pos := "law.go:229", after := #[{ on := 9, ground := Ground.data }, { on := 7, ground := Ground.data }, { on := 5, ground := Ground.chain }, { on := 0, ground := Ground.phase }, { on := 1, ground := Ground.phase }, { on := 2, ground := Ground.phase }, { on := 3, ground := Ground.phase }, { on := 4, ground := Ground.phase }, { on := 5, ground := Ground.phase }, { on := 6, ground := Ground.phase }, { on := 7, ground := Ground.phase }, { on := 8, ground := Ground.textOnly Departure.lateStores }, { on := 9, ground := Ground.phase }], guard := none }) rfl (fun K hK => ?_) AllReadyH.nil
          go_simp
          refine hK.out _ _ (HSR.out _ hb9) (fun _ => ?_)
          clear hK K
          (try simp only [Act.put, List.setIfInBounds_toArray, List.set_cons_zero, List.set_cons_succ])
          refine wpAnyH_take (i := 11) (oi := { dst := some 15, op := Op.assign (Operand.tmp 78), type := 68, pos := "law.go:229", after := #[{ on := 8, ground := Ground.data }, { on := 10, ground := Ground.chain }, { on := 0, ground := Ground.phase }, { on := 1, ground := Ground.phase }, { on := 2, ground := Ground.phase }, { on := 3, ground := Ground.phase }, { on := 4, ground := Ground.phase }, { on := 5, ground := Ground.phase }, { on := 6, ground := Ground.phase }, { on := 7, ground := Ground.phase }, { on := 8, ground := Ground.phase }, { on := 9, ground := Ground.phase }, { on := 10, ground := Ground.phase }], guard := none }) (v := ?_) rfl (by as_aux_lemma => kernel_rfl) (by as_aux_lemma => kernel_rfl) (by as_aux_lemma => kernel_rfl) (fun _ _ _ h => h) (Or.inl ⟨by rfl, ?_⟩) (by assumption) ?_
          rotate_left
          · ((intro w hSw; (try dsimp only at hSw); go_simp); try with_reducible rfl)
          (try simp only [Act.put, List.setIfInBounds_toArray, List.set_cons_zero, List.set_cons_succ])
          refine wpAnyH_done (by as_aux_lemma => kernel_rfl) ?_ _
          clear c0 f0 c1 f1 c2 f2 c3 f3 c4 f4
          go_wp2_with fail
          go_meet
          exact ⟨cb, ⟨PP, qa, qa0, qa1, qc, qc0, qc1⟩, rfl, rfl, h9, hO9, rfl, below_step hbw hb9⟩
      case rest =>
        clear hbw
        obtain ⟨ab, v, rfl, rfl, hab, hvO, hv, hbw⟩ := hcut
        clear wr
        generalize wc = wr at *
        have HV := Lib.hid hv
        clear hv
        go_upto_region 13 with (fail)
        go_cut [16] from 79 to 84 (fun s16 wx => ∃ (bb : Nat) (z : PosA), s16 = .pointer (some ⟨bb, 0, none⟩) ∧ wx.heap[bb]? = some (.cells #[.slice z.a z.p.cells.length z.c, .slice z.a0 z.p.h0.length z.c0, .slice z.a1 z.p.h1.length z.c1, .int .i64 z.p.rights, .int .i64 z.p.side, .int .i64 EE] 74 (0, 0)) ∧ PosOwn w8.heap.size wx z.a z.a0 z.a1 z.c z.c0 z.c1 z.p ∧ z.p = PP ∧ Below w8.heap.size w8 wx ∧ wx.heap[ab]? = some (.cells #[.slice v.a v.p.cells.length v.c, .slice v.a0 v.p.h0.length v.c0, .slice v.a1 v.p.h1.length v.c1, .int .i64 v.p.rights, .int .i64 v.p.side] 32 (0, 0)) ∧ PosOwn w8.heap.size wx v.a v.a0 v.a1 v.c v.c0 v.c1 v.p)
        case first =>
          have hr0 : Below wr.heap.size wr wr.drew := (Below.refl _ wr).drew
          have HSR := Lib.hid (fun W (h : Below wr.heap.size wr W) => HSW.out W (below_step hbw h))
          refine wp_region_held_drew (S := fun W => W.heap[gb]? = some (.cells #[.int .i64 (bc : Int), .slice an ln cn, .slice at_ lt ct, .slice ak ks.length ck, .int .i64 (r : Int), .bool mu, .slice ac lc cc, .int .i64 bl, .int .i64 en] 41 (0, 0)) ∧ W.cell? ⟨tb, i, none⟩ = some (.string ⟨t.toArray⟩)) (by as_aux_lemma => kernel_rfl) (HSR.out _ hr0) (fun hHeld => ?_)
          generalize wr.drew = wD at *
          refine wpAnyH_take (i := 0) (oi := { dst := some 79, op := Op.load 41 (Operand.tmp 8), type := 41, pos := "law.go:230", after := #[], guard := none }) (v := .agg #[.int .i64 (bc : Int), .slice an ln cn, .slice at_ lt ct, .slice ak ks.length ck, .int .i64 (r : Int), .bool mu, .slice ac lc cc, .int .i64 bl, .int .i64 en]) rfl (by as_aux_lemma => kernel_rfl) (by as_aux_lemma => kernel_rfl) (by as_aux_lemma => kernel_rfl) (fun _ _ _ h => h) (yieldsIf_load_mid rfl 41 (.tmp 8) rfl gb 0 rfl [.int .i64 (bc : Int), .slice an ln cn, .slice at_ lt ct, .slice ak ks.length ck, .int .i64 (r : Int), .bool mu, .slice ac lc cc, .int .i64 bl, .int .i64 en] _ (fun W hW => range_of_row hW.1) Tryz.underlying41 rfl info_game9) (by assumption) ?_
          (try simp only [Act.put, List.setIfInBounds_toArray, List.set_cons_zero, List.set_cons_succ])
          refine wpAnyH_take (i := 1) (oi := { dst := some 80, op := Op.move (Operand.tmp 12), type := 72, pos := "law.go:230", after := #[], guard := none }) (v := ?_) rfl (by as_aux_lemma => kernel_rfl) (by as_aux_lemma => kernel_rfl) (by as_aux_lemma => kernel_rfl) (fun _ _ _ h => h) (Or.inl ⟨by rfl, ?_⟩) (by assumption) ?_
          rotate_left
          · ((intro w hSw; (try dsimp only at hSw); go_simp); try with_reducible rfl)
          (try simp only [Act.put, List.setIfInBounds_toArray, List.set_cons_zero, List.set_cons_succ])
          refine wpAnyH_take (i := 2) (oi := { dst := some 81, op := Op.move (Operand.tmp 13), type := 3, pos := "law.go:230", after := #[], guard := none }) (v := ?_) rfl (by as_aux_lemma => kernel_rfl) (by as_aux_lemma => kernel_rfl) (by as_aux_lemma => kernel_rfl) (fun _ _ _ h => h) (Or.inl ⟨by rfl, ?_⟩) (by assumption) ?_
          rotate_left
          · ((intro w hSw; (try dsimp only at hSw); go_simp); try with_reducible rfl)
          (try simp only [Act.put, List.setIfInBounds_toArray, List.set_cons_zero, List.set_cons_succ])
          refine wpAnyH_take (i := 3) (oi := { dst := some 82, op := Op.indexAddr 72 (Operand.tmp 80) (Operand.tmp 81), type := 0, pos := "law.go:230", after := #[{ on := 1, ground := Ground.data }, { on := 2, ground := Ground.data }], guard := none }) (v := ?_) rfl (by as_aux_lemma => kernel_rfl) (by as_aux_lemma => kernel_rfl) (by as_aux_lemma => kernel_rfl) (fun _ _ _ h => h) (Or.inl ⟨by rfl, ?_⟩) (by assumption) ?_
          rotate_left
          · ((intro w hSw; (try dsimp only at hSw); go_simp); try with_reducible rfl)
          (try simp only [Act.put, List.setIfInBounds_toArray, List.set_cons_zero, List.set_cons_succ])
          refine wpAnyH_take (i := 4) (oi := { dst := some 83, op := Op.load 9 (Operand.tmp 82), type := 9, pos := "law.go:230", after := #[{ on := 3, ground := Ground.data }], guard := none }) (v := ?_) rfl (by as_aux_lemma => kernel_rfl) (by as_aux_lemma => kernel_rfl) (by as_aux_lemma => kernel_rfl) (fun _ _ _ h => h) (Or.inl ⟨by rfl, ?_⟩) (by assumption) ?_
          rotate_left
          · ((intro w hSw; (try dsimp only at hSw); go_simp); try with_reducible rfl)
          (try simp only [Act.put, List.setIfInBounds_toArray, List.set_cons_zero, List.set_cons_succ])
          refine wpAnyH_ready (rs := [5, 6]) (by as_aux_lemma => kernel_rfl) (by simp) ?_
          refine AllReadyH.cons (o := { dst := some 84, op := Op.call { callee := Callee.value (Operand.func 35), args := #[Operand.tmp 79, Operand.tmp 83], argTypes := #[41, 9] }, type := 74, pos := "law.go:230", after := #[{ on := 0, ground := Ground.data }, { on := 4, ground := Ground.data }], guard := none }) rfl (fun K hK => ?_) (AllReadyH.cons (o := { dst := some 16, op := Op.alloc 74, type := 0, pos := "law.go:230", after := #[], guard := none }) rfl (fun K hK => ?_) AllReadyH.nil)
          · skip
            refine step_call_g rfl 35 _ _ #[.agg #[.int .i64 (bc : Int), .slice an ln cn, .slice at_ lt ct, .slice ak ks.length ck, .int .i64 (r : Int), .bool mu, .slice ac lc cc, .int .i64 bl, .int .i64 en], .string ⟨t.toArray⟩] rfl rfl (enters_of Tryz.func35 (by as_aux_lemma => kernel_rfl) rfl) ((HP2.out wD (below_step hbw hr0)).mono ?_)
            rintro e wE ⟨z, hz, rfl, hO, hb⟩
            have HZ := Lib.hid hz
            clear hz
            have hrE := below_step hr0 hb
            refine ⟨_, rfl, hK.out _ _ (HSR.out _ hrE) (fun _ => ?_)⟩
            clear hK K
            (try simp only [Act.put, List.setIfInBounds_toArray, List.set_cons_zero, List.set_cons_succ])
            refine wpAnyH_ready (rs := [6]) (by as_aux_lemma => kernel_rfl) (by simp) ?_
            refine AllReadyH.cons (o := { dst := some 16, op := Op.alloc 74, type := 0, pos := "law.go:230", after := #[], guard := none }) rfl (fun K hK => ?_) AllReadyH.nil
            go_simp
            have hX : (wE.alloc (.cells #[.slice none 0 0, .slice none 0 0, .slice none 0 0, .int .i64 0, .int .i64 0, .int .i64 0] 74)).heap[wE.heap.size]? = some (.cells #[.slice none 0 0, .slice none 0 0, .slice none 0 0, .int .i64 0, .int .i64 0, .int .i64 0] 74 (0, 0)) := World.alloc_heap_new _ _
            have hba := below_alloc (Below.refl _ wE) (.cells #[.slice none 0 0, .slice none 0 0, .slice none 0 0, .int .i64 0, .int .i64 0, .int .i64 0] 74)
            have hrX := below_step hrE hba
            refine hK.out _ _ (HSR.out _ hrX) (fun _ => ?_)
            clear hK K
            (try simp only [Act.put, List.setIfInBounds_toArray, List.set_cons_zero, List.set_cons_succ])
            have hcb : wr.heap.size ≤ wE.heap.size := hrE.size
            obtain ⟨cb, hcbe⟩ : ∃ cb, wE.heap.size = cb := ⟨_, rfl⟩
            rw [hcbe] at hX hcb
            simp only [hcbe]
            have HCB := Lib.hid hcbe
            clear hcbe
            generalize wE.alloc (.cells #[.slice none 0 0, .slice none 0 0, .slice none 0 0, .int .i64 0, .int .i64 0, .int .i64 0] 74) = wX at *
            have c0 := bx_cell hX 0 rfl
            have f0 := bx_frozen hX 0
            have c1 := bx_cell hX 1 rfl
            have f1 := bx_frozen hX 1
            have c2 := bx_cell hX 2 rfl
            have f2 := bx_frozen hX 2
            have c3 := bx_cell hX 3 rfl
            have f3 := bx_frozen hX 3
            have c4 := bx_cell hX 4 rfl
            have f4 := bx_frozen hX 4
            have c5 := bx_cell hX 5 rfl
            have f5 := bx_frozen hX 5
            have h9 := set6_block hX (.slice z.a z.p.cells.length z.c) (.slice z.a0 z.p.h0.length z.c0) (.slice z.a1 z.p.h1.length z.c1) (.int .i64 z.p.rights) (.int .i64 z.p.side) (.int .i64 EE)
            have hal := set6_alters wX cb (.slice z.a z.p.cells.length z.c) (.slice z.a0 z.p.h0.length z.c0) (.slice z.a1 z.p.h1.length z.c1) (.int .i64 z.p.rights) (.int .i64 z.p.side) (.int .i64 EE)
            have hb9 : Below wr.heap.size wr (set6 wX cb (.slice z.a z.p.cells.length z.c) (.slice z.a0 z.p.h0.length z.c0) (.slice z.a1 z.p.h1.length z.c1) (.int .i64 z.p.rights) (.int .i64 z.p.side) (.int .i64 EE)) := hrX.trans (hal.below hrX.size (fun k hk => by have hk : k = cb := hk; omega))
            have hO9 := (hO.past ((Alters.of_below hba).trans hal) (fun k hk => .inr (by have hk : k = cb := hk; have := HCB.out; omega))).mono (Nat.le_trans hbw.size hr0.size)
            refine wpAnyH_ready (rs := [7]) (by as_aux_lemma => kernel_rfl) (by simp) ?_
            refine AllReadyH.cons (o := { dst := none, op := Op.store 74 (Operand.tmp 16) (Operand.tmp 84), type := 0, pos := "law.go:230", after := #[{ on := 6, ground := Ground.data }, { on := 5, ground := Ground.data }, { on := 5, ground := Ground.chain }, { on := 0, ground := Ground.phase }, { on := 1, ground := Ground.phase }, { on := 2, ground := Ground.phase }, { on := 3, ground := Ground.phase }, { on := 4, ground := Ground.phase }, { on := 5, ground := Ground.phase }, { on := 6, ground := Ground.phase }], guard := none }) rfl (fun K hK => ?_) AllReadyH.nil
            go_simp
            refine hK.out _ _ (HSR.out _ hb9) (fun _ => ?_)
            clear hK K
            (try simp only [Act.put, List.setIfInBounds_toArray, List.set_cons_zero, List.set_cons_succ])
            refine wpAnyH_done (by as_aux_lemma => kernel_rfl) ?_ _
            clear c0 f0 c1 f1 c2 f2 c3 f3 c4 f4 c5 f5
            go_wp2_with fail
            go_meet
            exact ⟨cb, z, rfl, h9, hO9, HZ.out, below_step hbw hb9, (hb9.block ab (bx_lt hab)).trans hab, hvO.up hb9⟩
          · skip
            go_simp
            have hX0 : (wD.alloc (.cells #[.slice none 0 0, .slice none 0 0, .slice none 0 0, .int .i64 0, .int .i64 0, .int .i64 0] 74)).heap[wD.heap.size]? = some (.cells #[.slice none 0 0, .slice none 0 0, .slice none 0 0, .int .i64 0, .int .i64 0, .int .i64 0] 74 (0, 0)) := World.alloc_heap_new _ _
            have hba := below_alloc (Below.refl _ wD) (.cells #[.slice none 0 0, .slice none 0 0, .slice none 0 0, .int .i64 0, .int .i64 0, .int .i64 0] 74)
            have hrA := below_step hr0 hba
            have hsz : (wD.alloc (.cells #[.slice none 0 0, .slice none 0 0, .slice none 0 0, .int .i64 0, .int .i64 0, .int .i64 0] 74)).heap.size = wD.heap.size + 1 := by simp
            refine hK.out _ _ (HSR.out _ hrA) (fun _ => ?_)
            clear hK K
            (try simp only [Act.put, List.setIfInBounds_toArray, List.set_cons_zero, List.set_cons_succ])
            have hcb : wr.heap.size ≤ wD.heap.size := hr0.size
            obtain ⟨cb, hcbe⟩ : ∃ cb, wD.heap.size = cb := ⟨_, rfl⟩
            rw [hcbe] at hX0 hcb hsz
            simp only [hcbe]
            have HCB := Lib.hid hcbe
            clear hcbe
            generalize wD.alloc (.cells #[.slice none 0 0, .slice none 0 0, .slice none 0 0, .int .i64 0, .int .i64 0, .int .i64 0] 74) = wA at *
            refine wpAnyH_ready (rs := [5]) (by as_aux_lemma => kernel_rfl) (by simp) ?_
            refine AllReadyH.cons (o := { dst := some 84, op := Op.call { callee := Callee.value (Operand.func 35), args := #[Operand.tmp 79, Operand.tmp 83], argTypes := #[41, 9] }, type := 74, pos := "law.go:230", after := #[{ on := 0, ground := Ground.data }, { on := 4, ground := Ground.data }], guard := none }) rfl (fun K hK => ?_) AllReadyH.nil
            refine step_call_g rfl 35 _ _ #[.agg #[.int .i64 (bc : Int), .slice an ln cn, .slice at_ lt ct, .slice ak ks.length ck, .int .i64 (r : Int), .bool mu, .slice ac lc cc, .int .i64 bl, .int .i64 en], .string ⟨t.toArray⟩] rfl rfl (enters_of Tryz.func35 (by as_aux_lemma => kernel_rfl) rfl) ((HP2.out wA (below_step hbw hrA)).mono ?_)
            rintro e wE ⟨z, hz, rfl, hO, hb⟩
            have HZ := Lib.hid hz
            clear hz
            have hrX := below_step hrA hb
            refine ⟨_, rfl, hK.out _ _ (HSR.out _ hrX) (fun _ => ?_)⟩
            clear hK K
            (try simp only [Act.put, List.setIfInBounds_toArray, List.set_cons_zero, List.set_cons_succ])
            have hX := (hb.block _ (bx_lt hX0)).trans hX0
            obtain ⟨wX, hwX⟩ : ∃ wX, wE = wX := ⟨_, rfl⟩
            subst hwX
            have c0 := bx_cell hX 0 rfl
            have f0 := bx_frozen hX 0
            have c1 := bx_cell hX 1 rfl
            have f1 := bx_frozen hX 1
            have c2 := bx_cell hX 2 rfl
            have f2 := bx_frozen hX 2
            have c3 := bx_cell hX 3 rfl
            have f3 := bx_frozen hX 3
            have c4 := bx_cell hX 4 rfl
            have f4 := bx_frozen hX 4
            have c5 := bx_cell hX 5 rfl
            have f5 := bx_frozen hX 5
            have h9 := set6_block hX (.slice z.a z.p.cells.length z.c) (.slice z.a0 z.p.h0.length z.c0) (.slice z.a1 z.p.h1.length z.c1) (.int .i64 z.p.rights) (.int .i64 z.p.side) (.int .i64 EE)
            have hal := set6_alters wE cb (.slice z.a z.p.cells.length z.c) (.slice z.a0 z.p.h0.length z.c0) (.slice z.a1 z.p.h1.length z.c1) (.int .i64 z.p.rights) (.int .i64 z.p.side) (.int .i64 EE)
            have hb9 : Below wr.heap.size wr (set6 wE cb (.slice z.a z.p.cells.length z.c) (.slice z.a0 z.p.h0.length z.c0) (.slice z.a1 z.p.h1.length z.c1) (.int .i64 z.p.rights) (.int .i64 z.p.side) (.int .i64 EE)) := hrX.trans (hal.below hrX.size (fun k hk => by have hk : k = cb := hk; omega))
            have hO9 := (hO.past hal (fun k hk => .inl (by have hk : k = cb := hk; omega))).mono (Nat.le_trans hbw.size hrA.size)
            refine wpAnyH_ready (rs := [7]) (by as_aux_lemma => kernel_rfl) (by simp) ?_
            refine AllReadyH.cons (o := { dst := none, op := Op.store 74 (Operand.tmp 16) (Operand.tmp 84), type := 0, pos := "law.go:230", after := #[{ on := 6, ground := Ground.data }, { on := 5, ground := Ground.data }, { on := 5, ground := Ground.chain }, { on := 0, ground := Ground.phase }, { on := 1, ground := Ground.phase }, { on := 2, ground := Ground.phase }, { on := 3, ground := Ground.phase }, { on := 4, ground := Ground.phase }, { on := 5, ground := Ground.phase }, { on := 6, ground := Ground.phase }], guard := none }) rfl (fun K hK => ?_) AllReadyH.nil
            go_simp
            refine hK.out _ _ (HSR.out _ hb9) (fun _ => ?_)
            clear hK K
            (try simp only [Act.put, List.setIfInBounds_toArray, List.set_cons_zero, List.set_cons_succ])
            refine wpAnyH_done (by as_aux_lemma => kernel_rfl) ?_ _
            clear c0 f0 c1 f1 c2 f2 c3 f3 c4 f4 c5 f5
            go_wp2_with fail
            go_meet
            exact ⟨cb, z, rfl, h9, hO9, HZ.out, below_step hbw hb9, (hb9.block ab (bx_lt hab)).trans hab, hvO.up hb9⟩
        case rest =>
          clear hbw hab hvO
          obtain ⟨bb, z, rfl, hbb, hzO, hz, hbw, hab, hvO⟩ := hcut
          clear wr
          generalize wc = wr at *
          have hvK : AOk wr.heap.size wr v := ⟨by rw [HV.out]; exact hfit, hvO.in_⟩
          have hzK : AOk wr.heap.size wr z := ⟨by rw [hz]; exact hfit, hzO.in_⟩
          have HEQ := Lib.hid (equal_any v.p z.p v.a v.a0 v.a1 z.a z.a0 z.a1 v.c v.c0 v.c1 z.c z.c0 z.c1 wr.heap.size wr hvK.fit (Nat.le_refl _) hvK.lies hzK.lies)
          rw [show eqB v.p z.p = true by rw [eqB_iff, decide_eq_true_eq, cmpP_ok.eq0, HV.out, hz]] at HEQ
          unfold PosV at HEQ
          have q0 := bx_cell hab 0 rfl
          have q1 := bx_cell hab 1 rfl
          have q2 := bx_cell hab 2 rfl
          have q3 := bx_cell hab 3 rfl
          have q4 := bx_cell hab 4 rfl
          have r0 := bx_cell hbb 0 rfl
          have r1 := bx_cell hbb 1 rfl
          have r2 := bx_cell hbb 2 rfl
          have r3 := bx_cell hbb 3 rfl
          have r4 := bx_cell hbb 4 rfl
          have HB := Lib.hid hbw
          have HBB := Lib.hid hbb
          clear hab hbb hz hvO hzO hvK hzK hbw hfit
          go_wp2_with fail
          refine HEQ.out.mono ?_
          rintro e wG ⟨rfl, hbG⟩
          have r5 := bx_cell ((hbG.block _ (bx_lt HBB.out)).trans HBB.out) 5 rfl
          have tz : (EE != EE) = false := by simp
          have HB2 := Lib.hid (below_step HB.out hbG)
          clear hbG q0 q1 q2 q3 q4 r0 r1 r2 r3 r4
          go_wp2_with fail
          go_roundw
          case rel =>
            (repeat apply Exists.intro)
            exact ⟨⟨i + 1, by omega, by go_num, HB2.out⟩, rfl⟩
          case measure => simp [intOf]; omega
    · obtain rfl : i = 4 := by omega
      have HB := Lib.hid (below_step HBW.out hbw)
      clear hbw
      go_wp2
      go_ret
      exact ⟨rfl, HB.out⟩
end Go.Proofs.YtphhkfelpckilaaGreatDoor
