/-
  Agreement with the reference: what is true of a made position; the class of worlds that hold a game and two positions.
  PosMatchesReference returns true, given that the lists of the second odd position are of a size that a machine can hold.
-/
import Derived.Test.YtphhkfelpckilaaGreatDoorGGame
import Derived.Test.YtphhkfelpckilaaGreatDoorPRSort
import Derived.Test.YtphhkfelpckilaaGreatDoorPCntA
import Derived.Test.YtphhkfelpckilaaGreatDoorPRMore
import Derived.Test.YtphhkfelpckilaaGreatDoorPRVa
import Derived.Test.YtphhkfelpckilaaGreatDoorDParse
import Derived.Deep.QuietTactic
import Derived.Test.YtphhkfelpckilaaGreatDoorDSan
namespace Go.Proofs.YtphhkfelpckilaaGreatDoor
open Go Go.RowKit Go.Lib Go.Sort

theorem posB_true {bc r : Nat} {ks : List Bool} {p : PosS} (h : PosAll bc r ks p) : posB bc r ks p = true := by
  unfold posB
  rw [h.len, h.cells, h.h0, h.h1, h.rights, h.side]
  simp
theorem allIn_get {l : List Int} {m : Int} (h : allIn l m = true) (hm : 0 ≤ m) (i : Nat) : 0 ≤ l[i]?.getD 0 ∧ l[i]?.getD 0 ≤ m := by
  by_cases hi : i < l.length
  · unfold allIn at h
    rw [List.all_eq_true] at h
    have := h l[i] (List.getElem_mem _)
    unfold upToB at this
    rw [List.getElem?_eq_getElem hi, Option.getD_some]
    simpa using this
  · rw [List.getElem?_eq_none (by omega)]; simpa using hm
theorem handB_get {ks : List Bool} {h : List Int} (hh : handB ks h = true) (i : Nat) : 0 ≤ h[i]?.getD 0 ∧ h[i]?.getD 0 ≤ 8 := by
  by_cases hi : i < h.length
  · unfold handB at hh
    rw [Bool.and_eq_true, List.all_eq_true] at hh
    have h2 := hh.2 i (by simpa using hi)
    unfold handOk upToB at h2
    simp only [Bool.and_eq_true, decide_eq_true_eq] at h2
    refine ⟨by omega, ?_⟩
    split at h2 <;> omega
  · rw [List.getElem?_eq_none (by omega)]; simp
theorem PosGood.low {bc r : Nat} {ks : List Bool} {p : PosS} (h : PosGood bc r ks p) (hbc : bc ≤ 9) (hr : r ≤ 2) (hks : ks.length ≤ 2) : PosLow p := by
  have h1 := h.all.rights
  have h2 := h.all.side
  unfold upToB at h1 h2
  simp only [Bool.and_eq_true, decide_eq_true_eq] at h1 h2
  refine ⟨fun i => ?_, fun i => handB_get h.all.h0 i, fun i => handB_get h.all.h1 i, ⟨h1.1, ?_⟩, h2, by rw [h.all.len]; exact hbc, by rw [h.l0]; exact hks, by rw [h.l1]; exact hks⟩
  · have := allIn_get h.all.cells (by omega) i
    omega
  · rcases (show r = 0 ∨ r = 1 ∨ r = 2 by omega) with rfl | rfl | rfl <;> simp at h1 <;> omega

/-- A game's box and two positions, wherever they lie. -/
structure RC (w : World) (gb : Nat) (x0 x1 x2 x3 x4 x5 x6 x7 x8 : Value) (ga oi gc oj : Nat) (x y : PosA) (W : World) : Prop where
  b : Below w.heap.size w W
  g0 : W.cell? ⟨gb, 0, none⟩ = some x0
  g1 : W.cell? ⟨gb, 1, none⟩ = some x1
  g2 : W.cell? ⟨gb, 2, none⟩ = some x2
  g3 : W.cell? ⟨gb, 3, none⟩ = some x3
  g4 : W.cell? ⟨gb, 4, none⟩ = some x4
  g5 : W.cell? ⟨gb, 5, none⟩ = some x5
  g6 : W.cell? ⟨gb, 6, none⟩ = some x6
  g7 : W.cell? ⟨gb, 7, none⟩ = some x7
  g8 : W.cell? ⟨gb, 8, none⟩ = some x8
  p0 : W.cell? ⟨ga, oi, none⟩ = some (.slice x.a x.p.cells.length x.c)
  p1 : W.cell? ⟨ga, oi + 1, none⟩ = some (.slice x.a0 x.p.h0.length x.c0)
  p2 : W.cell? ⟨ga, oi + 2, none⟩ = some (.slice x.a1 x.p.h1.length x.c1)
  p3 : W.cell? ⟨ga, oi + 3, none⟩ = some (.int .i64 x.p.rights)
  p4 : W.cell? ⟨ga, oi + 4, none⟩ = some (.int .i64 x.p.side)
  q0 : W.cell? ⟨gc, oj, none⟩ = some (.slice y.a y.p.cells.length y.c)
  q1 : W.cell? ⟨gc, oj + 1, none⟩ = some (.slice y.a0 y.p.h0.length y.c0)
  q2 : W.cell? ⟨gc, oj + 2, none⟩ = some (.slice y.a1 y.p.h1.length y.c1)
  q3 : W.cell? ⟨gc, oj + 3, none⟩ = some (.int .i64 y.p.rights)
  q4 : W.cell? ⟨gc, oj + 4, none⟩ = some (.int .i64 y.p.side)
theorem RC.up {w W W' : World} {gb ga oi gc oj : Nat} {x0 x1 x2 x3 x4 x5 x6 x7 x8 : Value} {x y : PosA} (h : RC w gb x0 x1 x2 x3 x4 x5 x6 x7 x8 ga oi gc oj x y W) (hb : Below W.heap.size W W') : RC w gb x0 x1 x2 x3 x4 x5 x6 x7 x8 ga oi gc oj x y W' :=
  ⟨below_step h.b hb, cell_keep hb h.g0, cell_keep hb h.g1, cell_keep hb h.g2, cell_keep hb h.g3, cell_keep hb h.g4, cell_keep hb h.g5, cell_keep hb h.g6, cell_keep hb h.g7, cell_keep hb h.g8, cell_keep hb h.p0, cell_keep hb h.p1, cell_keep hb h.p2, cell_keep hb h.p3, cell_keep hb h.p4, cell_keep hb h.q0, cell_keep hb h.q1, cell_keep hb h.q2, cell_keep hb h.q3, cell_keep hb h.q4⟩
theorem RC.here {w W : World} {gb ga oi gc oj : Nat} {x0 x1 x2 x3 x4 x5 x6 x7 x8 : Value} {x y : PosA} (h : RC w gb x0 x1 x2 x3 x4 x5 x6 x7 x8 ga oi gc oj x y W) : RC W gb x0 x1 x2 x3 x4 x5 x6 x7 x8 ga oi gc oj x y W :=
  ⟨Below.refl _ _, h.g0, h.g1, h.g2, h.g3, h.g4, h.g5, h.g6, h.g7, h.g8, h.p0, h.p1, h.p2, h.p3, h.p4, h.q0, h.q1, h.q2, h.q3, h.q4⟩
theorem RC.of {W : World} {gb ga oi gc oj : Nat} {x0 x1 x2 x3 x4 x5 x6 x7 x8 : Value} {x y : PosA} {T : TypeId} (hg : W.heap[gb]? = some (.cells #[x0, x1, x2, x3, x4, x5, x6, x7, x8] T (0, 0))) (hT : TwoB W ga oi gc oj x y W) : RC W gb x0 x1 x2 x3 x4 x5 x6 x7 x8 ga oi gc oj x y W :=
  ⟨Below.refl _ _, bx_cell hg 0 rfl, bx_cell hg 1 rfl, bx_cell hg 2 rfl, bx_cell hg 3 rfl, bx_cell hg 4 rfl, bx_cell hg 5 rfl, bx_cell hg 6 rfl, bx_cell hg 7 rfl, bx_cell hg 8 rfl, hT.x0, hT.x1, hT.x2, hT.x3, hT.x4, hT.y0, hT.y1, hT.y2, hT.y3, hT.y4⟩
theorem ints_same_r (l : List Int) (a a2 : Option Addr) (n ct c2 N : Nat) (w : World) (hn : n = l.length) (hl : l.length ≤ maxLen) (hI : Ints N w a l) (hI2 : Ints N w a2 l) :
    Calls Tryz.prog 28 #[.slice a n ct, .slice a2 n c2] w fun e w' => e = .returned (.bool true) ∧ Below w.heap.size w w' := by
  subst hn
  have h := ints1_below l l a a2 ct c2 N w hl hI hI2
  rw [decide_eq_true rfl] at h
  exact h
end Go.Proofs.YtphhkfelpckilaaGreatDoor


namespace Go.Proofs.YtphhkfelpckilaaGreatDoor
open Go Go.RowKit Go.Lib Go.Sort
attribute [local irreducible] Go.wpQuiet

set_option maxRecDepth 100000 in
set_option maxHeartbeats 3000000 in
theorem pref_any (x : GRaw) (a0 a1 a2 : Option Addr) (c0 c1 c2 N : Nat) (l : List PRaw) (X Y : PosA) (al : Option Addr) (cl : Nat) (w : World) (hL : EnvIn w) (hN : N ≤ w.heap.size) (hI : GRawIn N w a0 a1 a2 x) (hl : PRs N w al l)
    (hX : AOk N w X) (hY : AOk N w Y) (hXl : X.p.cells.length + X.p.h0.length + X.p.h1.length ≤ 17592186044000) :
    Calls Tryz.prog 3 #[.agg (x.cells a0 a1 a2 c0 c1 c2), .slice al l.length cl, .agg (X.enc ++ Y.enc).toArray] w fun e w' => e = .returned (.bool true) ∧ Below w.heap.size w w' := by
  have HMG := Lib.hid (fun W h => made_game x a0 a1 a2 c0 c1 c2 N W h)
  have hsx : (x.cells a0 a1 a2 c0 c1 c2).size = 12 := rfl
  obtain ⟨ys, hys⟩ : ∃ ys, (X.enc ++ Y.enc).toArray = ys := ⟨_, rfl⟩
  rw [hys]
  have HYS := Lib.hid hys
  clear hys
  generalize x.cells a0 a1 a2 c0 c1 c2 = xs at *
  go_enter Tryz.func3, Tryz.ntmps3
  go_upto_region 1 with (fail)
  have hb0 : Below w.heap.size w ((w.alloc (.cells xs 27)).alloc (.cells ys 33)) := below_alloc (below_alloc (Below.refl _ _) _) _
  have hX0 : ((w.alloc (.cells xs 27)).alloc (.cells ys 33)).heap[w.heap.size]? = some (.cells xs 27 (0, 0)) := hp_old_at (World.alloc_heap_new _ _)
  have hY0 : ((w.alloc (.cells xs 27)).alloc (.cells ys 33)).heap[w.heap.size + 1]? = some (.cells ys 33 (0, 0)) := hp_new_at _ _ (by simp)
  generalize ((w.alloc (.cells xs 27)).alloc (.cells ys 33)) = w0 at *
  go_wp2_with fail
  refine (sanity_any w0 (hL.up hb0)).mono ?_
  rintro e w1 ⟨rfl, hb1⟩
  have hX1 := (hb1.block _ (bx_lt hX0)).trans hX0
  have hY1 := (hb1.block _ (bx_lt hY0)).trans hY0
  have hbw1 := below_step hb0 hb1
  have hI1 := hI.up hN hbw1
  have hN1 := Nat.le_trans hN hbw1.size
  clear hX0 hY0 hb0 hb1
  go_wp2_with (with_reducible refine wpList_load_row rfl 27 (.tmp 3) rfl w.heap.size rfl 27 xs (0, 0) _ hX1 Tryz.underlying27 rfl (by rw [hsx]; exact info_raw3) ?_)
  refine (HMG.out _ hN1 hI1).mono ?_
  rintro e w2 ⟨bc, r, ks, an, at_, ak, ac, ln, cn, lt, ct, ck, lc, cc, mu, bl, en, rfl, hK, hbc, hr, hks, hb2⟩
  have hY2 := (hb2.block _ (bx_lt hY1)).trans hY1
  have hbw2 := below_step hbw1 hb2
  have hwg := hbw2.size
  clear hX1 hY1 hb2 hI1 HMG hbw1 hN1 hI
  go_upto_region 3 with (fail)
  have hG3 : (w2.alloc (.cells #[.int .i64 (bc : Int), .slice an ln cn, .slice at_ lt ct, .slice ak ks.length ck, .int .i64 (r : Int), .bool mu, .slice ac lc cc, .int .i64 bl, .int .i64 en] 41)).heap[w2.heap.size]? = some (.cells #[.int .i64 (bc : Int), .slice an ln cn, .slice at_ lt ct, .slice ak ks.length ck, .int .i64 (r : Int), .bool mu, .slice ac lc cc, .int .i64 bl, .int .i64 en] 41 (0, 0)) := World.alloc_heap_new _ _
  have hb23 := below_alloc (Below.refl _ w2) (.cells #[.int .i64 (bc : Int), .slice an ln cn, .slice at_ lt ct, .slice ak ks.length ck, .int .i64 (r : Int), .bool mu, .slice ac lc cc, .int .i64 bl, .int .i64 en] 41)
  have hY3 := (hb23.block _ (bx_lt hY2)).trans hY2
  have hK3 := hK.below hb23
  have hbw3 := below_step hbw2 hb23
  have hN3 := hb23.size
  generalize (w2.alloc (.cells #[.int .i64 (bc : Int), .slice an ln cn, .slice at_ lt ct, .slice ak ks.length ck, .int .i64 (r : Int), .bool mu, .slice ac lc cc, .int .i64 bl, .int .i64 en] 41)) = w3 at *
  generalize w2.heap.size = gb at *
  have HIG : (Tryz.prog.info? 41).map (·.size) = some (#[.int .i64 (bc : Int), .slice an ln cn, .slice at_ lt ct, .slice ak ks.length ck, .int .i64 (r : Int), .bool mu, .slice ac lc cc, .int .i64 bl, .int .i64 en] : Array Value).size := info_game9
  clear hY2 hK hb23 hbw2
  have hlb := PRs.mono (RowIn.up hl hN hbw3) (Nat.le_trans hN hwg)
  go_wp2_with (with_reducible refine wpList_load_row rfl 41 (.tmp 8) rfl gb rfl 41 _ (0, 0) _ hG3 Tryz.underlying41 rfl HIG ?_)
  refine (many_any bc r ks (.slice an ln cn) (.slice at_ lt ct) (.bool mu) (.slice ac lc cc) (.int .i64 bl) (.int .i64 en) ak ck gb l al cl 12 w3 hbc hr hks (by omega) hN3 hK3 hlb).mono ?_
  rintro e w4 ⟨L, ga, ca, rfl, hLM, hLO, hLA, hLG, hb34⟩
  have hG4 := (hb34.block _ (bx_lt hG3)).trans hG3
  have hY4 := (hb34.block _ (bx_lt hY3)).trans hY3
  have hK4 := hK3.below (hb34.mono hN3)
  have hN4 := Nat.le_trans hN3 hb34.size
  have hbw4 := below_step hbw3 hb34
  have hL12 : L.length ≤ 12 := by
    have := congrArg List.length hLM
    simp at this; omega
  clear hLM hbw3 hb34 hG3 hK3 hlb hY3 hN3 hl
  have hLK := hLA.ok (fun x hx => (hLG x hx).fit)
  have hLP := hLO.at0
  go_wp2_with fail
  refine (rsort_any L (some ⟨ga, 0, none⟩) ca w4.heap.size w4 (by omega) (ps_cap hLO) (Nat.le_refl _) hLK (.inr ⟨ga, 0, rfl, hLO.at0⟩)).mono ?_
  rintro e w5 ⟨R, gs, cs, rfl, hRS, hRO, hRL, hb45⟩
  have hG5 := (hb45.block _ (bx_lt hG4)).trans hG4
  have hY5 := (hb45.block _ (bx_lt hY4)).trans hY4
  have hK5 := hK4.below (hb45.mono hN4)
  have hN5 := Nat.le_trans hN4 hb45.size
  have hbw5 := below_step hbw4 hb45
  have hs45 := hb45.size
  have hNw := Nat.le_trans hN hbw5.size
  have HLP := Lib.hid (hLP.up hb45)
  have HRP := Lib.hid hRO.at0
  have HLK : Hid (∀ x ∈ L, AOk w5.heap.size w5 x) := Lib.hid (fun x hx => ((hLK x hx).up (Nat.le_refl _) hb45).mono hs45)
  have HRK : Hid (∀ x ∈ R, AOk w5.heap.size w5 x) := Lib.hid (fun x hx => HLK.out x (hRL x hx))
  have HLG := Lib.hid hLG
  have hR12 : R.length ≤ 12 := by
    have h1 := congrArg List.length hRS
    have h2 := sortS_len (L.map (·.p))
    simp at h1 h2; omega
  have HSR := Lib.hid (show Srt (R.map (·.p)) by rw [hRS]; exact sortS_srt _)
  have HMR := Lib.hid (show ∀ p, p ∈ R.map (·.p) ↔ p ∈ L.map (·.p) by intro p; rw [hRS]; exact sortS_mem _ p)
  have HXO := Lib.hid ((hX.up hN hbw5).mono hNw)
  have HYO := Lib.hid ((hY.up hN hbw5).mono hNw)
  have HXL := Lib.hid hXl
  have HE := Lib.hid (hL.up hbw5)
  have HG5 := Lib.hid hG5
  rw [← HYS.out] at hY5
  have HY5 := Lib.hid hY5
  have HK5 := Lib.hid hK5
  have HBW5 := Lib.hid hbw5
  have hgl := bx_lt hG5
  have hyl := bx_lt hY5
  clear hLO hLA hLG hLK hb45 hbw4 hG4 hY4 hK4 hN4 hRS hRO hRL hG5 hY5 hK5 hbw5 hLP hs45 hX hY hXl hL HYS
  have h2B : TwoB w5 (w.heap.size + 1) 0 (w.heap.size + 1) 5 X Y w5 := by
    have k0 := fun j v (h : (X.enc ++ Y.enc).toArray[j]? = some v) => bx_cell HY5.out j h
    exact ⟨Below.refl _ _, k0 0 _ rfl, k0 1 _ rfl, k0 2 _ rfl, k0 3 _ rfl, k0 4 _ rfl, k0 5 _ rfl, k0 6 _ rfl, k0 7 _ rfl, k0 8 _ rfl, k0 9 _ rfl⟩
  have hC : RC w5 gb (.int .i64 (bc : Int)) (.slice an ln cn) (.slice at_ lt ct) (.slice ak ks.length ck) (.int .i64 (r : Int)) (.bool mu) (.slice ac lc cc) (.int .i64 bl) (.int .i64 en) (w.heap.size + 1) 0 (w.heap.size + 1) 5 X Y w5 := RC.of HG5.out h2B
  clear h2B
  have HSO := Lib.hid (fun W (h : Below w5.heap.size w5 W) => sorted_lists L R ga ca gs cs w5 W h HLP.out HRP.out HLK.out HRK.out (by omega) (fun x hx => ⟨(HLG.out x hx).small, (HLG.out x hx).fit⟩) HSR.out HMR.out)
  have HC1 := Lib.hid (fun W (h : Below w5.heap.size w5 W) => compare_any X.p Y.p X.a X.a0 X.a1 Y.a Y.a0 Y.a1 X.c X.c0 X.c1 Y.c Y.c0 Y.c1 w5.heap.size W HXO.out.fit h.size (HXO.out.lies.up (Nat.le_refl _) h) (HYO.out.lies.up (Nat.le_refl _) h))
  have HC2 := Lib.hid (fun W (h : Below w5.heap.size w5 W) => rcompare_any X Y w5.heap.size W (HXO.out.up (Nat.le_refl _) h) (HYO.out.up (Nat.le_refl _) h) h.size)
  have HK1 := Lib.hid (fun W (h : Below w5.heap.size w5 W) => key_any X.p X.a X.a0 X.a1 X.c X.c0 X.c1 w5.heap.size W (by have := HXL.out; omega) h.size (HXO.out.lies.up (Nat.le_refl _) h))
  have HK2 := Lib.hid (fun W (h : Below w5.heap.size w5 W) => rkey_any X.p X.a X.a0 X.a1 X.c X.c0 X.c1 w5.heap.size W HXL.out h.size (HXO.out.lies.up (Nat.le_refl _) h))
  have HV1 := Lib.hid (fun W (h : Below w5.heap.size w5 W) => posValid_any bc r ks (.slice an ln cn) (.slice at_ lt ct) (.bool mu) (.slice ac lc cc) (.int .i64 bl) (.int .i64 en) X.p ak X.a X.a0 X.a1 ck X.c X.c0 X.c1 w5.heap.size W (by omega) (by omega) HXO.out.fit h.size (HXO.out.lies.up (Nat.le_refl _) h) (HK5.out.to h hN5 hN5))
  have HV2 := Lib.hid (fun W (h : Below w5.heap.size w5 W) => rvalid_any bc r ks (.slice an ln cn) (.slice at_ lt ct) (.bool mu) (.slice ac lc cc) (.int .i64 bl) (.int .i64 en) X.p ak X.a X.a0 X.a1 ck X.c X.c0 X.c1 w5.heap.size W hr hks.2 HXO.out.fit h.size (HXO.out.lies.up (Nat.le_refl _) h) (HK5.out.to h hN5 hN5))
  unfold PosA.val PosV at HC2
  unfold PosV at HC1 HK1 HK2 HV1 HV2
  generalize cmpP X.p Y.p = z at *
  generalize (⟨(keyS X.p).toArray⟩ : ByteArray) = KY at *
  generalize posB bc r ks X.p = vd at *
  have tz : (z != z) = false := by simp
  have tv : (vd != vd) = false := by simp
  go_upto_region 5 with (fail)
  refine wp_region_held_drew (S := RC w5 gb (.int .i64 (bc : Int)) (.slice an ln cn) (.slice at_ lt ct) (.slice ak ks.length ck) (.int .i64 (r : Int)) (.bool mu) (.slice ac lc cc) (.int .i64 bl) (.int .i64 en) (w.heap.size + 1) 0 (w.heap.size + 1) 5 X Y) (by as_aux_lemma => kernel_rfl) (hC.up (Below.refl _ _).drew) (fun hHeld => ?_)
  have e0 : Below w5.heap.size w5 w5.drew := (Below.refl _ w5).drew
  refine wpAnyH_take (i := 0) (oi := { dst := some 22, op := Op.move (Operand.tmp 9), type := 43, pos := "law.go:33", after := #[], guard := none }) (v := ?_) rfl (by as_aux_lemma => kernel_rfl) (by as_aux_lemma => kernel_rfl) (by as_aux_lemma => kernel_rfl) (fun _ _ _ h => h) (Or.inl ⟨by rfl, ?_⟩) (by assumption) ?_
  rotate_left
  · ((intro w hSw; (try cases hSw); go_simp); try with_reducible rfl)
  (try simp only [Act.put, List.setIfInBounds_toArray, List.set_cons_zero, List.set_cons_succ])
  refine wpAnyH_take (i := 2) (oi := { dst := some 24, op := Op.move (Operand.tmp 10), type := 43, pos := "law.go:33", after := #[], guard := none }) (v := ?_) rfl (by as_aux_lemma => kernel_rfl) (by as_aux_lemma => kernel_rfl) (by as_aux_lemma => kernel_rfl) (fun _ _ _ h => h) (Or.inl ⟨by rfl, ?_⟩) (by assumption) ?_
  rotate_left
  · ((intro w hSw; (try cases hSw); go_simp); try with_reducible rfl)
  (try simp only [Act.put, List.setIfInBounds_toArray, List.set_cons_zero, List.set_cons_succ])
  refine wpAnyH_ready (rs := [1]) (by as_aux_lemma => kernel_rfl) (by simp) ?_
  refine AllReadyH.cons (o := { dst := some 23, op := Op.call { callee := Callee.value (Operand.func 17), args := #[Operand.tmp 22], argTypes := #[43] }, type := 43, pos := "law.go:33", after := #[{ on := 0, ground := Ground.data }], guard := none }) rfl (fun K hK => ?_) AllReadyH.nil
  refine step_call_g rfl 17 _ _ #[.slice (some ⟨ga, 0, none⟩) L.length ca] rfl rfl (enters_of Tryz.func17 (by as_aux_lemma => kernel_rfl) rfl) ((HSO.out _ e0).mono ?_)
  rintro e w6 ⟨R1, g1, c1, rfl, hb6, HLI⟩
  have e6 := below_step e0 hb6
  refine ⟨_, rfl, hK.out _ _ (hC.up e6) (fun _ => ?_)⟩
  clear hK K
  (try simp only [Act.put, List.setIfInBounds_toArray, List.set_cons_zero, List.set_cons_succ])
  refine wpAnyH_ready (rs := [3]) (by as_aux_lemma => kernel_rfl) (by simp) ?_
  refine AllReadyH.cons (o := { dst := some 25, op := Op.call { callee := Callee.value (Operand.func 16), args := #[Operand.tmp 23, Operand.tmp 24], argTypes := #[43, 43] }, type := 4, pos := "law.go:33", after := #[{ on := 1, ground := Ground.data }, { on := 2, ground := Ground.data }, { on := 1, ground := Ground.chain }], guard := none }) rfl (fun K hK => ?_) AllReadyH.nil
  refine step_call_g rfl 16 _ _ #[.slice (some ⟨g1, 0, none⟩) R1.length c1, .slice (some ⟨gs, 0, none⟩) R.length cs] rfl rfl (enters_of Tryz.func16 (by as_aux_lemma => kernel_rfl) rfl) ((HLI.out).mono ?_)
  rintro e w7 ⟨rfl, hb7⟩
  have e7 := below_step e6 hb7
  refine ⟨_, rfl, hK.out _ _ (hC.up e7) (fun _ => ?_)⟩
  clear hK K
  (try simp only [Act.put, List.setIfInBounds_toArray, List.set_cons_zero, List.set_cons_succ])
  refine wpAnyH_take (i := 4) (oi := { dst := some 26, op := Op.unOp UnOp.not 4 (Operand.tmp 25), type := 4, pos := "law.go:33", after := #[{ on := 3, ground := Ground.data }], guard := none }) (v := ?_) rfl (by as_aux_lemma => kernel_rfl) (by as_aux_lemma => kernel_rfl) (by as_aux_lemma => kernel_rfl) (fun _ _ _ h => h) (Or.inl ⟨by rfl, ?_⟩) (by assumption) ?_
  rotate_left
  · ((intro w hSw; (try cases hSw); go_simp); try with_reducible rfl)
  (try simp only [Act.put, List.setIfInBounds_toArray, List.set_cons_zero, List.set_cons_succ])
  refine wpAnyH_take (i := 5) (oi := { dst := some 27, op := Op.move (Operand.tmp 26), type := 4, pos := "law.go:33", after := #[{ on := 4, ground := Ground.data }, { on := 3, ground := Ground.chain }], guard := none }) (v := ?_) rfl (by as_aux_lemma => kernel_rfl) (by as_aux_lemma => kernel_rfl) (by as_aux_lemma => kernel_rfl) (fun _ _ _ h => h) (Or.inl ⟨by rfl, ?_⟩) (by assumption) ?_
  rotate_left
  · ((intro w hSw; (try cases hSw); go_simp); try with_reducible rfl)
  (try simp only [Act.put, List.setIfInBounds_toArray, List.set_cons_zero, List.set_cons_succ])
  refine wpAnyH_take (i := 6) (oi := { dst := some 28, op := Op.indexAddr 33 (Operand.tmp 5) (Operand.const (Value.int IntKind.i64 0)), type := 0, pos := "law.go:33", after := #[{ on := 5, ground := Ground.guard }], guard := some (5, false) }) (v := ?_) rfl (by as_aux_lemma => kernel_rfl) (by as_aux_lemma => kernel_rfl) (by as_aux_lemma => kernel_rfl) (fun _ _ _ h => h) (Or.inl ⟨by rfl, ?_⟩) (by assumption) ?_
  rotate_left
  · ((intro w hSw; (try cases hSw); go_simp); try with_reducible rfl)
  (try simp only [Act.put, List.setIfInBounds_toArray, List.set_cons_zero, List.set_cons_succ])
  refine wpAnyH_take (i := 7) (oi := { dst := some 29, op := Op.load 32 (Operand.tmp 28), type := 32, pos := "law.go:33", after := #[{ on := 6, ground := Ground.data }, { on := 5, ground := Ground.guard }], guard := some (5, false) }) (v := ?_) rfl (by as_aux_lemma => kernel_rfl) (by as_aux_lemma => kernel_rfl) (by as_aux_lemma => kernel_rfl) (fun _ _ _ h => h) (Or.inl ⟨by rfl, ?_⟩) (by assumption) ?_
  rotate_left
  · ((intro w hSw; (try cases hSw); go_simp); try with_reducible rfl)
  (try simp only [Act.put, List.setIfInBounds_toArray, List.set_cons_zero, List.set_cons_succ])
  refine wpAnyH_take (i := 8) (oi := { dst := some 30, op := Op.indexAddr 33 (Operand.tmp 5) (Operand.const (Value.int IntKind.i64 1)), type := 0, pos := "law.go:33", after := #[{ on := 5, ground := Ground.guard }], guard := some (5, false) }) (v := ?_) rfl (by as_aux_lemma => kernel_rfl) (by as_aux_lemma => kernel_rfl) (by as_aux_lemma => kernel_rfl) (fun _ _ _ h => h) (Or.inl ⟨by rfl, ?_⟩) (by assumption) ?_
  rotate_left
  · ((intro w hSw; (try cases hSw); go_simp); try with_reducible rfl)
  (try simp only [Act.put, List.setIfInBounds_toArray, List.set_cons_zero, List.set_cons_succ])
  refine wpAnyH_take (i := 9) (oi := { dst := some 31, op := Op.load 32 (Operand.tmp 30), type := 32, pos := "law.go:33", after := #[{ on := 8, ground := Ground.data }, { on := 5, ground := Ground.guard }], guard := some (5, false) }) (v := ?_) rfl (by as_aux_lemma => kernel_rfl) (by as_aux_lemma => kernel_rfl) (by as_aux_lemma => kernel_rfl) (fun _ _ _ h => h) (Or.inl ⟨by rfl, ?_⟩) (by assumption) ?_
  rotate_left
  · ((intro w hSw; (try cases hSw); go_simp); try with_reducible rfl)
  (try simp only [Act.put, List.setIfInBounds_toArray, List.set_cons_zero, List.set_cons_succ])
  refine wpAnyH_take (i := 11) (oi := { dst := some 33, op := Op.indexAddr 33 (Operand.tmp 5) (Operand.const (Value.int IntKind.i64 0)), type := 0, pos := "law.go:33", after := #[{ on := 5, ground := Ground.guard }], guard := some (5, false) }) (v := ?_) rfl (by as_aux_lemma => kernel_rfl) (by as_aux_lemma => kernel_rfl) (by as_aux_lemma => kernel_rfl) (fun _ _ _ h => h) (Or.inl ⟨by rfl, ?_⟩) (by assumption) ?_
  rotate_left
  · ((intro w hSw; (try cases hSw); go_simp); try with_reducible rfl)
  (try simp only [Act.put, List.setIfInBounds_toArray, List.set_cons_zero, List.set_cons_succ])
  refine wpAnyH_take (i := 12) (oi := { dst := some 34, op := Op.load 32 (Operand.tmp 33), type := 32, pos := "law.go:33", after := #[{ on := 11, ground := Ground.data }, { on := 5, ground := Ground.guard }], guard := some (5, false) }) (v := ?_) rfl (by as_aux_lemma => kernel_rfl) (by as_aux_lemma => kernel_rfl) (by as_aux_lemma => kernel_rfl) (fun _ _ _ h => h) (Or.inl ⟨by rfl, ?_⟩) (by assumption) ?_
  rotate_left
  · ((intro w hSw; (try cases hSw); go_simp); try with_reducible rfl)
  (try simp only [Act.put, List.setIfInBounds_toArray, List.set_cons_zero, List.set_cons_succ])
  refine wpAnyH_take (i := 13) (oi := { dst := some 35, op := Op.indexAddr 33 (Operand.tmp 5) (Operand.const (Value.int IntKind.i64 1)), type := 0, pos := "law.go:33", after := #[{ on := 5, ground := Ground.guard }], guard := some (5, false) }) (v := ?_) rfl (by as_aux_lemma => kernel_rfl) (by as_aux_lemma => kernel_rfl) (by as_aux_lemma => kernel_rfl) (fun _ _ _ h => h) (Or.inl ⟨by rfl, ?_⟩) (by assumption) ?_
  rotate_left
  · ((intro w hSw; (try cases hSw); go_simp); try with_reducible rfl)
  (try simp only [Act.put, List.setIfInBounds_toArray, List.set_cons_zero, List.set_cons_succ])
  refine wpAnyH_take (i := 14) (oi := { dst := some 36, op := Op.load 32 (Operand.tmp 35), type := 32, pos := "law.go:33", after := #[{ on := 13, ground := Ground.data }, { on := 5, ground := Ground.guard }], guard := some (5, false) }) (v := ?_) rfl (by as_aux_lemma => kernel_rfl) (by as_aux_lemma => kernel_rfl) (by as_aux_lemma => kernel_rfl) (fun _ _ _ h => h) (Or.inl ⟨by rfl, ?_⟩) (by assumption) ?_
  rotate_left
  · ((intro w hSw; (try cases hSw); go_simp); try with_reducible rfl)
  (try simp only [Act.put, List.setIfInBounds_toArray, List.set_cons_zero, List.set_cons_succ])
  refine wpAnyH_ready (rs := [10]) (by as_aux_lemma => kernel_rfl) (by simp) ?_
  refine AllReadyH.cons (o := { dst := some 32, op := Op.call { callee := Callee.value (Operand.func 18), args := #[Operand.tmp 29, Operand.tmp 31], argTypes := #[32, 32] }, type := 3, pos := "law.go:33", after := #[{ on := 7, ground := Ground.data }, { on := 9, ground := Ground.data }, { on := 5, ground := Ground.chain }, { on := 5, ground := Ground.guard }], guard := some (5, false) }) rfl (fun K hK => ?_) AllReadyH.nil
  refine step_call_g rfl 18 _ _ #[.agg #[.slice X.a X.p.cells.length X.c, .slice X.a0 X.p.h0.length X.c0, .slice X.a1 X.p.h1.length X.c1, .int .i64 X.p.rights, .int .i64 X.p.side], .agg #[.slice Y.a Y.p.cells.length Y.c, .slice Y.a0 Y.p.h0.length Y.c0, .slice Y.a1 Y.p.h1.length Y.c1, .int .i64 Y.p.rights, .int .i64 Y.p.side]] rfl rfl (enters_of Tryz.func18 (by as_aux_lemma => kernel_rfl) rfl) ((HC1.out _ e7).mono ?_)
  rintro e w8 ⟨rfl, hb8⟩
  have e8 := below_step e7 hb8
  refine ⟨_, rfl, hK.out _ _ (hC.up e8) (fun _ => ?_)⟩
  clear hK K
  (try simp only [Act.put, List.setIfInBounds_toArray, List.set_cons_zero, List.set_cons_succ])
  refine wpAnyH_ready (rs := [15]) (by as_aux_lemma => kernel_rfl) (by simp) ?_
  refine AllReadyH.cons (o := { dst := some 37, op := Op.call { callee := Callee.value (Operand.func 19), args := #[Operand.tmp 34, Operand.tmp 36], argTypes := #[32, 32] }, type := 3, pos := "law.go:33", after := #[{ on := 12, ground := Ground.data }, { on := 14, ground := Ground.data }, { on := 10, ground := Ground.chain }, { on := 5, ground := Ground.guard }], guard := some (5, false) }) rfl (fun K hK => ?_) AllReadyH.nil
  refine step_call_g rfl 19 _ _ #[.agg #[.slice X.a X.p.cells.length X.c, .slice X.a0 X.p.h0.length X.c0, .slice X.a1 X.p.h1.length X.c1, .int .i64 X.p.rights, .int .i64 X.p.side], .agg #[.slice Y.a Y.p.cells.length Y.c, .slice Y.a0 Y.p.h0.length Y.c0, .slice Y.a1 Y.p.h1.length Y.c1, .int .i64 Y.p.rights, .int .i64 Y.p.side]] rfl rfl (enters_of Tryz.func19 (by as_aux_lemma => kernel_rfl) rfl) ((HC2.out _ e8).mono ?_)
  rintro e w9 ⟨rfl, hb9⟩
  have e9 := below_step e8 hb9
  refine ⟨_, rfl, hK.out _ _ (hC.up e9) (fun _ => ?_)⟩
  clear hK K
  (try simp only [Act.put, List.setIfInBounds_toArray, List.set_cons_zero, List.set_cons_succ])
  refine wpAnyH_take (i := 16) (oi := { dst := some 38, op := Op.binOp BinOp.neq 3 (Operand.tmp 32) (Operand.tmp 37) 3, type := 4, pos := "law.go:33", after := #[{ on := 10, ground := Ground.data }, { on := 15, ground := Ground.data }, { on := 5, ground := Ground.guard }], guard := some (5, false) }) (v := ?_) rfl (by as_aux_lemma => kernel_rfl) (by as_aux_lemma => kernel_rfl) (by as_aux_lemma => kernel_rfl) (fun _ _ _ h => h) (Or.inl ⟨by rfl, ?_⟩) (by assumption) ?_
  rotate_left
  · ((intro w hSw; (try cases hSw); go_simp); try with_reducible rfl)
  (try simp only [Act.put, List.setIfInBounds_toArray, List.set_cons_zero, List.set_cons_succ])
  refine wpAnyH_take (i := 17) (oi := { dst := some 39, op := Op.pick (Operand.tmp 27) (Operand.const (Value.bool true)) (Operand.tmp 38), type := 4, pos := "law.go:33", after := #[{ on := 5, ground := Ground.data }, { on := 16, ground := Ground.data }], guard := none }) (v := ?_) rfl (by as_aux_lemma => kernel_rfl) (by as_aux_lemma => kernel_rfl) (by as_aux_lemma => kernel_rfl) (fun _ _ _ h => h) (Or.inl ⟨by rfl, ?_⟩) (by assumption) ?_
  rotate_left
  · ((intro w hSw; (try cases hSw); go_simp); try with_reducible rfl)
  (try simp only [Act.put, List.setIfInBounds_toArray, List.set_cons_zero, List.set_cons_succ])
  refine wpAnyH_take (i := 18) (oi := { dst := some 40, op := Op.move (Operand.tmp 39), type := 4, pos := "law.go:33", after := #[{ on := 17, ground := Ground.data }, { on := 15, ground := Ground.chain }], guard := none }) (v := ?_) rfl (by as_aux_lemma => kernel_rfl) (by as_aux_lemma => kernel_rfl) (by as_aux_lemma => kernel_rfl) (fun _ _ _ h => h) (Or.inl ⟨by rfl, ?_⟩) (by assumption) ?_
  rotate_left
  · ((intro w hSw; (try cases hSw); go_simp); try with_reducible rfl)
  (try simp only [Act.put, List.setIfInBounds_toArray, List.set_cons_zero, List.set_cons_succ])
  refine wpAnyH_take (i := 19) (oi := { dst := some 41, op := Op.indexAddr 33 (Operand.tmp 5) (Operand.const (Value.int IntKind.i64 0)), type := 0, pos := "law.go:33", after := #[{ on := 18, ground := Ground.guard }], guard := some (18, false) }) (v := ?_) rfl (by as_aux_lemma => kernel_rfl) (by as_aux_lemma => kernel_rfl) (by as_aux_lemma => kernel_rfl) (fun _ _ _ h => h) (Or.inl ⟨by rfl, ?_⟩) (by assumption) ?_
  rotate_left
  · ((intro w hSw; (try cases hSw); go_simp); try with_reducible rfl)
  (try simp only [Act.put, List.setIfInBounds_toArray, List.set_cons_zero, List.set_cons_succ])
  refine wpAnyH_take (i := 20) (oi := { dst := some 42, op := Op.load 32 (Operand.tmp 41), type := 32, pos := "law.go:33", after := #[{ on := 19, ground := Ground.data }, { on := 18, ground := Ground.guard }], guard := some (18, false) }) (v := ?_) rfl (by as_aux_lemma => kernel_rfl) (by as_aux_lemma => kernel_rfl) (by as_aux_lemma => kernel_rfl) (fun _ _ _ h => h) (Or.inl ⟨by rfl, ?_⟩) (by assumption) ?_
  rotate_left
  · ((intro w hSw; (try cases hSw); go_simp); try with_reducible rfl)
  (try simp only [Act.put, List.setIfInBounds_toArray, List.set_cons_zero, List.set_cons_succ])
  refine wpAnyH_take (i := 22) (oi := { dst := some 44, op := Op.indexAddr 33 (Operand.tmp 5) (Operand.const (Value.int IntKind.i64 0)), type := 0, pos := "law.go:33", after := #[{ on := 18, ground := Ground.guard }], guard := some (18, false) }) (v := ?_) rfl (by as_aux_lemma => kernel_rfl) (by as_aux_lemma => kernel_rfl) (by as_aux_lemma => kernel_rfl) (fun _ _ _ h => h) (Or.inl ⟨by rfl, ?_⟩) (by assumption) ?_
  rotate_left
  · ((intro w hSw; (try cases hSw); go_simp); try with_reducible rfl)
  (try simp only [Act.put, List.setIfInBounds_toArray, List.set_cons_zero, List.set_cons_succ])
  refine wpAnyH_take (i := 23) (oi := { dst := some 45, op := Op.load 32 (Operand.tmp 44), type := 32, pos := "law.go:33", after := #[{ on := 22, ground := Ground.data }, { on := 18, ground := Ground.guard }], guard := some (18, false) }) (v := ?_) rfl (by as_aux_lemma => kernel_rfl) (by as_aux_lemma => kernel_rfl) (by as_aux_lemma => kernel_rfl) (fun _ _ _ h => h) (Or.inl ⟨by rfl, ?_⟩) (by assumption) ?_
  rotate_left
  · ((intro w hSw; (try cases hSw); go_simp); try with_reducible rfl)
  (try simp only [Act.put, List.setIfInBounds_toArray, List.set_cons_zero, List.set_cons_succ])
  refine wpAnyH_ready (rs := [21]) (by as_aux_lemma => kernel_rfl) (by simp) ?_
  refine AllReadyH.cons (o := { dst := some 43, op := Op.call { callee := Callee.value (Operand.func 20), args := #[Operand.tmp 42], argTypes := #[32] }, type := 9, pos := "law.go:33", after := #[{ on := 20, ground := Ground.data }, { on := 18, ground := Ground.chain }, { on := 18, ground := Ground.guard }], guard := some (18, false) }) rfl (fun K hK => ?_) AllReadyH.nil
  refine step_call_g rfl 20 _ _ #[.agg #[.slice X.a X.p.cells.length X.c, .slice X.a0 X.p.h0.length X.c0, .slice X.a1 X.p.h1.length X.c1, .int .i64 X.p.rights, .int .i64 X.p.side]] rfl rfl (enters_of Tryz.func20 (by as_aux_lemma => kernel_rfl) rfl) ((HK1.out _ e9).mono ?_)
  rintro e w10 ⟨rfl, hb10⟩
  have e10 := below_step e9 hb10
  refine ⟨_, rfl, hK.out _ _ (hC.up e10) (fun _ => ?_)⟩
  clear hK K
  (try simp only [Act.put, List.setIfInBounds_toArray, List.set_cons_zero, List.set_cons_succ])
  refine wpAnyH_ready (rs := [24]) (by as_aux_lemma => kernel_rfl) (by simp) ?_
  refine AllReadyH.cons (o := { dst := some 46, op := Op.call { callee := Callee.value (Operand.func 21), args := #[Operand.tmp 45], argTypes := #[32] }, type := 9, pos := "law.go:33", after := #[{ on := 23, ground := Ground.data }, { on := 21, ground := Ground.chain }, { on := 18, ground := Ground.guard }], guard := some (18, false) }) rfl (fun K hK => ?_) AllReadyH.nil
  refine step_call_g rfl 21 _ _ #[.agg #[.slice X.a X.p.cells.length X.c, .slice X.a0 X.p.h0.length X.c0, .slice X.a1 X.p.h1.length X.c1, .int .i64 X.p.rights, .int .i64 X.p.side]] rfl rfl (enters_of Tryz.func21 (by as_aux_lemma => kernel_rfl) rfl) ((HK2.out _ e10).mono ?_)
  rintro e w11 ⟨rfl, hb11⟩
  have e11 := below_step e10 hb11
  refine ⟨_, rfl, hK.out _ _ (hC.up e11) (fun _ => ?_)⟩
  clear hK K
  (try simp only [Act.put, List.setIfInBounds_toArray, List.set_cons_zero, List.set_cons_succ])
  refine wpAnyH_take (i := 25) (oi := { dst := some 47, op := Op.binOp BinOp.neq 9 (Operand.tmp 43) (Operand.tmp 46) 9, type := 4, pos := "law.go:33", after := #[{ on := 21, ground := Ground.data }, { on := 24, ground := Ground.data }, { on := 18, ground := Ground.guard }], guard := some (18, false) }) (v := ?_) rfl (by as_aux_lemma => kernel_rfl) (by as_aux_lemma => kernel_rfl) (by as_aux_lemma => kernel_rfl) (fun _ _ _ h => h) (Or.inl ⟨by rfl, ?_⟩) (by assumption) ?_
  rotate_left
  · ((intro w hSw; (try cases hSw); go_simp); try with_reducible rfl)
  (try simp only [Act.put, List.setIfInBounds_toArray, List.set_cons_zero, List.set_cons_succ])
  refine wpAnyH_take (i := 26) (oi := { dst := some 48, op := Op.pick (Operand.tmp 40) (Operand.const (Value.bool true)) (Operand.tmp 47), type := 4, pos := "law.go:33", after := #[{ on := 18, ground := Ground.data }, { on := 25, ground := Ground.data }], guard := none }) (v := ?_) rfl (by as_aux_lemma => kernel_rfl) (by as_aux_lemma => kernel_rfl) (by as_aux_lemma => kernel_rfl) (fun _ _ _ h => h) (Or.inl ⟨by rfl, ?_⟩) (by assumption) ?_
  rotate_left
  · ((intro w hSw; (try cases hSw); go_simp); try with_reducible rfl)
  (try simp only [Act.put, List.setIfInBounds_toArray, List.set_cons_zero, List.set_cons_succ])
  refine wpAnyH_take (i := 27) (oi := { dst := some 49, op := Op.move (Operand.tmp 48), type := 4, pos := "law.go:33", after := #[{ on := 26, ground := Ground.data }, { on := 24, ground := Ground.chain }], guard := none }) (v := ?_) rfl (by as_aux_lemma => kernel_rfl) (by as_aux_lemma => kernel_rfl) (by as_aux_lemma => kernel_rfl) (fun _ _ _ h => h) (Or.inl ⟨by rfl, ?_⟩) (by assumption) ?_
  rotate_left
  · ((intro w hSw; (try cases hSw); go_simp); try with_reducible rfl)
  (try simp only [Act.put, List.setIfInBounds_toArray, List.set_cons_zero, List.set_cons_succ])
  refine wpAnyH_take (i := 28) (oi := { dst := some 50, op := Op.load 41 (Operand.tmp 8), type := 41, pos := "law.go:33", after := #[{ on := 27, ground := Ground.guard }], guard := some (27, false) }) (v := ?_) rfl (by as_aux_lemma => kernel_rfl) (by as_aux_lemma => kernel_rfl) (by as_aux_lemma => kernel_rfl) (fun _ _ _ h => h) (Or.inl ⟨by rfl, ?_⟩) (by assumption) ?_
  rotate_left
  · ((intro w hSw; (try cases hSw); go_simp); try with_reducible rfl)
  (try simp only [Act.put, List.setIfInBounds_toArray, List.set_cons_zero, List.set_cons_succ])
  refine wpAnyH_take (i := 29) (oi := { dst := some 51, op := Op.indexAddr 33 (Operand.tmp 5) (Operand.const (Value.int IntKind.i64 0)), type := 0, pos := "law.go:33", after := #[{ on := 27, ground := Ground.guard }], guard := some (27, false) }) (v := ?_) rfl (by as_aux_lemma => kernel_rfl) (by as_aux_lemma => kernel_rfl) (by as_aux_lemma => kernel_rfl) (fun _ _ _ h => h) (Or.inl ⟨by rfl, ?_⟩) (by assumption) ?_
  rotate_left
  · ((intro w hSw; (try cases hSw); go_simp); try with_reducible rfl)
  (try simp only [Act.put, List.setIfInBounds_toArray, List.set_cons_zero, List.set_cons_succ])
  refine wpAnyH_take (i := 30) (oi := { dst := some 52, op := Op.load 32 (Operand.tmp 51), type := 32, pos := "law.go:33", after := #[{ on := 29, ground := Ground.data }, { on := 27, ground := Ground.guard }], guard := some (27, false) }) (v := ?_) rfl (by as_aux_lemma => kernel_rfl) (by as_aux_lemma => kernel_rfl) (by as_aux_lemma => kernel_rfl) (fun _ _ _ h => h) (Or.inl ⟨by rfl, ?_⟩) (by assumption) ?_
  rotate_left
  · ((intro w hSw; (try cases hSw); go_simp); try with_reducible rfl)
  (try simp only [Act.put, List.setIfInBounds_toArray, List.set_cons_zero, List.set_cons_succ])
  refine wpAnyH_take (i := 32) (oi := { dst := some 54, op := Op.load 41 (Operand.tmp 8), type := 41, pos := "law.go:33", after := #[{ on := 27, ground := Ground.guard }], guard := some (27, false) }) (v := ?_) rfl (by as_aux_lemma => kernel_rfl) (by as_aux_lemma => kernel_rfl) (by as_aux_lemma => kernel_rfl) (fun _ _ _ h => h) (Or.inl ⟨by rfl, ?_⟩) (by assumption) ?_
  rotate_left
  · ((intro w hSw; (try cases hSw); go_simp); try with_reducible rfl)
  (try simp only [Act.put, List.setIfInBounds_toArray, List.set_cons_zero, List.set_cons_succ])
  refine wpAnyH_take (i := 33) (oi := { dst := some 55, op := Op.indexAddr 33 (Operand.tmp 5) (Operand.const (Value.int IntKind.i64 0)), type := 0, pos := "law.go:33", after := #[{ on := 27, ground := Ground.guard }], guard := some (27, false) }) (v := ?_) rfl (by as_aux_lemma => kernel_rfl) (by as_aux_lemma => kernel_rfl) (by as_aux_lemma => kernel_rfl) (fun _ _ _ h => h) (Or.inl ⟨by rfl, ?_⟩) (by assumption) ?_
  rotate_left
  · ((intro w hSw; (try cases hSw); go_simp); try with_reducible rfl)
  (try simp only [Act.put, List.setIfInBounds_toArray, List.set_cons_zero, List.set_cons_succ])
  refine wpAnyH_take (i := 34) (oi := { dst := some 56, op := Op.load 32 (Operand.tmp 55), type := 32, pos := "law.go:33", after := #[{ on := 33, ground := Ground.data }, { on := 27, ground := Ground.guard }], guard := some (27, false) }) (v := ?_) rfl (by as_aux_lemma => kernel_rfl) (by as_aux_lemma => kernel_rfl) (by as_aux_lemma => kernel_rfl) (fun _ _ _ h => h) (Or.inl ⟨by rfl, ?_⟩) (by assumption) ?_
  rotate_left
  · ((intro w hSw; (try cases hSw); go_simp); try with_reducible rfl)
  (try simp only [Act.put, List.setIfInBounds_toArray, List.set_cons_zero, List.set_cons_succ])
  refine wpAnyH_ready (rs := [31]) (by as_aux_lemma => kernel_rfl) (by simp) ?_
  refine AllReadyH.cons (o := { dst := some 53, op := Op.call { callee := Callee.value (Operand.func 22), args := #[Operand.tmp 50, Operand.tmp 52], argTypes := #[41, 32] }, type := 4, pos := "law.go:33", after := #[{ on := 28, ground := Ground.data }, { on := 30, ground := Ground.data }, { on := 27, ground := Ground.chain }, { on := 27, ground := Ground.guard }], guard := some (27, false) }) rfl (fun K hK => ?_) AllReadyH.nil
  refine step_call_g rfl 22 _ _ #[.agg #[.int .i64 (bc : Int), .slice an ln cn, .slice at_ lt ct, .slice ak ks.length ck, .int .i64 (r : Int), .bool mu, .slice ac lc cc, .int .i64 bl, .int .i64 en], .agg #[.slice X.a X.p.cells.length X.c, .slice X.a0 X.p.h0.length X.c0, .slice X.a1 X.p.h1.length X.c1, .int .i64 X.p.rights, .int .i64 X.p.side]] rfl rfl (enters_of Tryz.func22 (by as_aux_lemma => kernel_rfl) rfl) ((HV1.out _ e11).mono ?_)
  rintro e w12 ⟨rfl, hb12⟩
  have e12 := below_step e11 hb12
  refine ⟨_, rfl, hK.out _ _ (hC.up e12) (fun _ => ?_)⟩
  clear hK K
  (try simp only [Act.put, List.setIfInBounds_toArray, List.set_cons_zero, List.set_cons_succ])
  refine wpAnyH_ready (rs := [35]) (by as_aux_lemma => kernel_rfl) (by simp) ?_
  refine AllReadyH.cons (o := { dst := some 57, op := Op.call { callee := Callee.value (Operand.func 23), args := #[Operand.tmp 54, Operand.tmp 56], argTypes := #[41, 32] }, type := 4, pos := "law.go:33", after := #[{ on := 32, ground := Ground.data }, { on := 34, ground := Ground.data }, { on := 31, ground := Ground.chain }, { on := 27, ground := Ground.guard }], guard := some (27, false) }) rfl (fun K hK => ?_) AllReadyH.nil
  refine step_call_g rfl 23 _ _ #[.agg #[.int .i64 (bc : Int), .slice an ln cn, .slice at_ lt ct, .slice ak ks.length ck, .int .i64 (r : Int), .bool mu, .slice ac lc cc, .int .i64 bl, .int .i64 en], .agg #[.slice X.a X.p.cells.length X.c, .slice X.a0 X.p.h0.length X.c0, .slice X.a1 X.p.h1.length X.c1, .int .i64 X.p.rights, .int .i64 X.p.side]] rfl rfl (enters_of Tryz.func23 (by as_aux_lemma => kernel_rfl) rfl) ((HV2.out _ e12).mono ?_)
  rintro e w13 ⟨rfl, hb13⟩
  have e13 := below_step e12 hb13
  refine ⟨_, rfl, hK.out _ _ (hC.up e13) (fun _ => ?_)⟩
  clear hK K
  (try simp only [Act.put, List.setIfInBounds_toArray, List.set_cons_zero, List.set_cons_succ])
  refine wpAnyH_take (i := 36) (oi := { dst := some 58, op := Op.binOp BinOp.neq 4 (Operand.tmp 53) (Operand.tmp 57) 4, type := 4, pos := "law.go:33", after := #[{ on := 31, ground := Ground.data }, { on := 35, ground := Ground.data }, { on := 27, ground := Ground.guard }], guard := some (27, false) }) (v := ?_) rfl (by as_aux_lemma => kernel_rfl) (by as_aux_lemma => kernel_rfl) (by as_aux_lemma => kernel_rfl) (fun _ _ _ h => h) (Or.inl ⟨by rfl, ?_⟩) (by assumption) ?_
  rotate_left
  · ((intro w hSw; (try cases hSw); go_simp); try with_reducible rfl)
  (try simp only [Act.put, List.setIfInBounds_toArray, List.set_cons_zero, List.set_cons_succ])
  refine wpAnyH_take (i := 37) (oi := { dst := some 59, op := Op.pick (Operand.tmp 49) (Operand.const (Value.bool true)) (Operand.tmp 58), type := 4, pos := "law.go:33", after := #[{ on := 27, ground := Ground.data }, { on := 36, ground := Ground.data }], guard := none }) (v := ?_) rfl (by as_aux_lemma => kernel_rfl) (by as_aux_lemma => kernel_rfl) (by as_aux_lemma => kernel_rfl) (fun _ _ _ h => h) (Or.inl ⟨by rfl, ?_⟩) (by assumption) ?_
  rotate_left
  · ((intro w hSw; (try cases hSw); go_simp); try with_reducible rfl)
  (try simp only [Act.put, List.setIfInBounds_toArray, List.set_cons_zero, List.set_cons_succ])
  refine wpAnyH_done (by as_aux_lemma => kernel_rfl) ?_ _
  have HB13 := Lib.hid e13
  clear e0 e6 e7 e8 e9 e10 e11 e12 e13 hb6 hb7 hb8 hb9 hb10 hb11 hb12 hb13 hC hHeld HSO HC1 HC2 HK1 HK2 HV1 HV2 HLI
  clear tz tv
  have hs13 := HB13.out.size
  generalize w13 = w6 at *
  have HLP6 := Lib.hid (HLP.out.up HB13.out)
  have HRP6 := Lib.hid (HRP.out.up HB13.out)
  have HLK6 : Hid (∀ x ∈ L, AOk w6.heap.size w6 x) := Lib.hid (fun x hx => ((HLK.out x hx).up (Nat.le_refl _) HB13.out).mono hs13)
  have HRK6 : Hid (∀ x ∈ R, AOk w6.heap.size w6 x) := Lib.hid (fun x hx => ((HRK.out x hx).up (Nat.le_refl _) HB13.out).mono hs13)
  have HG6 := Lib.hid ((HB13.out.block _ hgl).trans HG5.out)
  have HK6 := Lib.hid (HK5.out.to HB13.out hN5 (Nat.le_refl _))
  have HE6 := Lib.hid (HE.out.up HB13.out)
  have HBW6 := Lib.hid (below_step HBW5.out HB13.out)
  have hN6 := Nat.le_trans hN5 hs13
  have hgl6 := bx_lt HG6.out
  clear HLP HRP HLK HRK HG5 HY5 HK5 HE HBW5 HB13 hs13 hN5 hgl hyl HXO HYO HXL hNw hN
  go_wp2_with fail
  go_loopw [11] (fun i wr => ∃ k : Nat, k ≤ L.length ∧ i = .int .i64 k ∧ Hid (Below w6.heap.size w6 wr)) (fun i _ => L.length - (intOf i).toNat)
  case atStart => exact ⟨0, Nat.zero_le _, rfl, Lib.hid (Below.refl _ _)⟩
  case round =>
    obtain ⟨k, hk, rfl, hb⟩ := hrel
    by_cases hlt : k < L.length
    · skip
      have t2 : decide (k < L.length) = true := by simpa using hlt
      have t2' : decide ((k : Int) < (L.length : Int)) = true := by simpa using hlt
      obtain ⟨x, hx⟩ : ∃ x, L[k] = x := ⟨_, rfl⟩
      obtain ⟨y, hy⟩ : ∃ y, L[0] = y := ⟨_, rfl⟩
      obtain ⟨c0, c1, c2, c3, c4⟩ := (HLP6.out.up hb.out).cells hlt hx
      have hxL : x ∈ L := by rw [← hx]; exact List.getElem_mem _
      have hyL : y ∈ L := by rw [← hy]; exact List.getElem_mem _
      have t4 : (0 : Int) ≤ (k : Int) := by omega
      have t5 : (k : Int) < (L.length : Int) := by omega
      have t6 : (0 : Int) < (L.length : Int) := by omega
      have t7 : 0 < L.length := by omega
      have w1 := IntWalk.i64_in ((k : Int) + 1) (by omega)
      have hs6 := hb.out.size
      go_upto_region 11 with (fail)
      have hP7 : (wr.alloc (.cells #[.slice x.a x.p.cells.length x.c, .slice x.a0 x.p.h0.length x.c0, .slice x.a1 x.p.h1.length x.c1, .int .i64 x.p.rights, .int .i64 x.p.side] 32)).heap[wr.heap.size]? = some (.cells #[.slice x.a x.p.cells.length x.c, .slice x.a0 x.p.h0.length x.c0, .slice x.a1 x.p.h1.length x.c1, .int .i64 x.p.rights, .int .i64 x.p.side] 32 (0, 0)) := World.alloc_heap_new _ _
      have hb67 : Below w6.heap.size w6 (wr.alloc (.cells #[.slice x.a x.p.cells.length x.c, .slice x.a0 x.p.h0.length x.c0, .slice x.a1 x.p.h1.length x.c1, .int .i64 x.p.rights, .int .i64 x.p.side] 32)) := below_alloc hb.out _
      clear c0 c1 c2 c3 c4
      generalize wr.alloc (.cells #[.slice x.a x.p.cells.length x.c, .slice x.a0 x.p.h0.length x.c0, .slice x.a1 x.p.h1.length x.c1, .int .i64 x.p.rights, .int .i64 x.p.side] 32) = w7 at *
      generalize wr.heap.size = pb at *
      have hs67 := hb67.size
      have HP7 := Lib.hid hP7
      have hC : RC w7 gb (.int .i64 (bc : Int)) (.slice an ln cn) (.slice at_ lt ct) (.slice ak ks.length ck) (.int .i64 (r : Int)) (.bool mu) (.slice ac lc cc) (.int .i64 bl) (.int .i64 en) ga 0 pb 0 y x w7 := by
        have h9 := TwoB.of (HLP6.out.up hb67) t7 hy hP7
        rw [Nat.zero_mul, Nat.add_zero] at h9
        exact RC.of ((hb67.block _ hgl6).trans HG6.out) h9
      have HXK := Lib.hid (((HLK6.out x hxL).up (Nat.le_refl _) hb67).mono hs67)
      have HYK := Lib.hid (((HLK6.out y hyL).up (Nat.le_refl _) hb67).mono hs67)
      have HRK7 : Hid (∀ z ∈ R, AOk w7.heap.size w7 z) := Lib.hid (fun z hz => ((HRK6.out z hz).up (Nat.le_refl _) hb67).mono hs67)
      have HRP7 := Lib.hid (HRP6.out.up hb67)
      have HK7 := Lib.hid (HK6.out.to hb67 hN6 (Nat.le_refl _))
      have HE7 := Lib.hid (HE6.out.up hb67)
      have HXG := Lib.hid (HLG.out x hxL)
      have hN7 := Nat.le_trans hN6 hs67
      have HF1 := Lib.hid (fun W (h : Below w7.heap.size w7 W) => find_any R x (some ⟨gs, 0, none⟩) cs w7.heap.size W h.size (by omega) HSR.out (fun z hz => (HRK7.out z hz).up (Nat.le_refl _) h) (HXK.out.up (Nat.le_refl _) h) ⟨gs, 0, rfl, HRP7.out.up h⟩)
      have HF2 := Lib.hid (fun W (h : Below w7.heap.size w7 W) => rfind_any R x (some ⟨gs, 0, none⟩) cs w7.heap.size W h.size (by omega) HSR.out (fun z hz => (HRK7.out z hz).up (Nat.le_refl _) h) (HXK.out.up (Nat.le_refl _) h) (.inr ⟨gs, 0, rfl, HRP7.out.up h⟩))
      have HC1 := Lib.hid (fun W (h : Below w7.heap.size w7 W) => compare_any x.p y.p x.a x.a0 x.a1 y.a y.a0 y.a1 x.c x.c0 x.c1 y.c y.c0 y.c1 w7.heap.size W HXK.out.fit h.size (HXK.out.lies.up (Nat.le_refl _) h) (HYK.out.lies.up (Nat.le_refl _) h))
      have HC2 := Lib.hid (fun W (h : Below w7.heap.size w7 W) => rcompare_any x y w7.heap.size W (HXK.out.up (Nat.le_refl _) h) (HYK.out.up (Nat.le_refl _) h) h.size)
      have hxl : x.p.cells.length + x.p.h0.length + x.p.h1.length ≤ 1000 := by have h1 := HXG.out.all.len; have h2 := HXG.out.l0; have h3 := HXG.out.l1; omega
      have HKa := Lib.hid (fun W (h : Below w7.heap.size w7 W) => key_any x.p x.a x.a0 x.a1 x.c x.c0 x.c1 w7.heap.size W (by omega) h.size (HXK.out.lies.up (Nat.le_refl _) h))
      have HKb := Lib.hid (fun W (h : Below w7.heap.size w7 W) => rkey_any x.p x.a x.a0 x.a1 x.c x.c0 x.c1 w7.heap.size W (by omega) h.size (HXK.out.lies.up (Nat.le_refl _) h))
      have HP1 := Lib.hid (fun W (h : Below w7.heap.size w7 W) => print_any (.int .i64 (bc : Int)) (.slice an ln cn) (.slice at_ lt ct) (.slice ak ks.length ck) (.int .i64 (r : Int)) (.bool mu) (.slice ac lc cc) (.int .i64 bl) (.int .i64 en) x.p x.a x.a0 x.a1 x.c x.c0 x.c1 w7.heap.size W HXG.out.num (HE7.out.up h) h.size (HXK.out.lies.up (Nat.le_refl _) h))
      have HP2 := Lib.hid (fun W (h : Below w7.heap.size w7 W) => rprint_any (.int .i64 (bc : Int)) (.slice an ln cn) (.slice at_ lt ct) (.slice ak ks.length ck) (.int .i64 (r : Int)) (.bool mu) (.slice ac lc cc) (.int .i64 bl) (.int .i64 en) x.p x.a x.a0 x.a1 x.c x.c0 x.c1 w7.heap.size W (HXG.out.low hbc.2 hr hks.2) h.size (HXK.out.lies.up (Nat.le_refl _) h))
      have HV1 := Lib.hid (fun W (h : Below w7.heap.size w7 W) => posValid_any bc r ks (.slice an ln cn) (.slice at_ lt ct) (.bool mu) (.slice ac lc cc) (.int .i64 bl) (.int .i64 en) x.p ak x.a x.a0 x.a1 ck x.c x.c0 x.c1 w7.heap.size W (by omega) (by omega) HXK.out.fit h.size (HXK.out.lies.up (Nat.le_refl _) h) (HK7.out.to h hN7 hN7))
      rw [posB_true HXG.out.all] at HV1
      unfold PosA.val PosV at HF1 HF2 HC2
      unfold PosV at HC1 HKa HKb HP1 HP2 HV1
      unfold Sgl at HP2
      generalize cmpP x.p y.p = cz at *
      generalize findS (R.map (·.p)) x.p = fz at *
      generalize (⟨(keyS x.p).toArray⟩ : ByteArray) = KS at *
      generalize (⟨(textP x.p).toArray⟩ : ByteArray) = TS at *
      refine wp_region_quiet (C := RC w7 gb (.int .i64 (bc : Int)) (.slice an ln cn) (.slice at_ lt ct) (.slice ak ks.length ck) (.int .i64 (r : Int)) (.bool mu) (.slice ac lc cc) (.int .i64 bl) (.int .i64 en) ga 0 pb 0 y x) (by as_aux_lemma => kernel_rfl) (by as_aux_lemma => kernel_rfl) (hC.up (Below.refl _ _).drew) ?_
      dsimp only
      iterate 2
        refine wpQuiet_val (v := ?_) (by rfl) ?_ ?_
        rotate_left
        · ((intro W hW; (try cases hW); go_simp); try with_reducible rfl)
        (try simp only [Act.put, List.setIfInBounds_toArray, List.set_cons_zero, List.set_cons_succ])
      refine wpQuiet_val (v := .int .i64 fz) (by rfl) (fun W hW => ?_) ?_
      · go_simp
        exact (HF1.out W hW.b).mono fun e w' ⟨he, hb⟩ => ⟨he, hW.up hb⟩
      (try simp only [Act.put, List.setIfInBounds_toArray, List.set_cons_zero, List.set_cons_succ])
      iterate 2
        refine wpQuiet_val (v := ?_) (by rfl) ?_ ?_
        rotate_left
        · ((intro W hW; (try cases hW); go_simp); try with_reducible rfl)
        (try simp only [Act.put, List.setIfInBounds_toArray, List.set_cons_zero, List.set_cons_succ])
      refine wpQuiet_val (v := .int .i64 fz) (by rfl) (fun W hW => ?_) ?_
      · go_simp
        exact (HF2.out W hW.b).mono fun e w' ⟨he, hb⟩ => ⟨he, hW.up hb⟩
      (try simp only [Act.put, List.setIfInBounds_toArray, List.set_cons_zero, List.set_cons_succ])
      iterate 3
        refine wpQuiet_val (v := ?_) (by rfl) ?_ ?_
        rotate_left
        · ((intro W hW; (try cases hW); go_simp); try with_reducible rfl)
        (try simp only [Act.put, List.setIfInBounds_toArray, List.set_cons_zero, List.set_cons_succ])
      refine wpQuiet_val (v := .string KS) (by rfl) (fun W hW => ?_) ?_
      · go_simp
        exact (HKa.out W hW.b).mono fun e w' ⟨he, hb⟩ => ⟨he, hW.up hb⟩
      (try simp only [Act.put, List.setIfInBounds_toArray, List.set_cons_zero, List.set_cons_succ])
      refine wpQuiet_val (v := ?_) (by rfl) ?_ ?_
      rotate_left
      · ((intro W hW; (try cases hW); go_simp); try with_reducible rfl)
      (try simp only [Act.put, List.setIfInBounds_toArray, List.set_cons_zero, List.set_cons_succ])
      refine wpQuiet_val (v := .string KS) (by rfl) (fun W hW => ?_) ?_
      · go_simp
        exact (HKb.out W hW.b).mono fun e w' ⟨he, hb⟩ => ⟨he, hW.up hb⟩
      (try simp only [Act.put, List.setIfInBounds_toArray, List.set_cons_zero, List.set_cons_succ])
      iterate 5
        refine wpQuiet_val (v := ?_) (by rfl) ?_ ?_
        rotate_left
        · ((intro W hW; (try cases hW); go_simp); try with_reducible rfl)
        (try simp only [Act.put, List.setIfInBounds_toArray, List.set_cons_zero, List.set_cons_succ])
      refine wpQuiet_val (v := .string TS) (by rfl) (fun W hW => ?_) ?_
      · go_simp
        exact (HP1.out W hW.b).mono fun e w' ⟨he, hb⟩ => ⟨he, hW.up hb⟩
      (try simp only [Act.put, List.setIfInBounds_toArray, List.set_cons_zero, List.set_cons_succ])
      iterate 2
        refine wpQuiet_val (v := ?_) (by rfl) ?_ ?_
        rotate_left
        · ((intro W hW; (try cases hW); go_simp); try with_reducible rfl)
        (try simp only [Act.put, List.setIfInBounds_toArray, List.set_cons_zero, List.set_cons_succ])
      refine wpQuiet_val (v := .string TS) (by rfl) (fun W hW => ?_) ?_
      · go_simp
        exact (HP2.out W hW.b).mono fun e w' ⟨he, hb⟩ => ⟨he, hW.up hb⟩
      (try simp only [Act.put, List.setIfInBounds_toArray, List.set_cons_zero, List.set_cons_succ])
      iterate 5
        refine wpQuiet_val (v := ?_) (by rfl) ?_ ?_
        rotate_left
        · ((intro W hW; (try cases hW); go_simp); try with_reducible rfl)
        (try simp only [Act.put, List.setIfInBounds_toArray, List.set_cons_zero, List.set_cons_succ])
      refine wpQuiet_val (v := .bool true) (by rfl) (fun W hW => ?_) ?_
      · go_simp
        exact (HV1.out W hW.b).mono fun e w' ⟨he, hb⟩ => ⟨he, hW.up hb⟩
      (try simp only [Act.put, List.setIfInBounds_toArray, List.set_cons_zero, List.set_cons_succ])
      iterate 7
        refine wpQuiet_val (v := ?_) (by rfl) ?_ ?_
        rotate_left
        · ((intro W hW; (try cases hW); go_simp); try with_reducible rfl)
        (try simp only [Act.put, List.setIfInBounds_toArray, List.set_cons_zero, List.set_cons_succ])
      refine wpQuiet_val (v := .int .i64 cz) (by rfl) (fun W hW => ?_) ?_
      · go_simp
        exact (HC1.out W hW.b).mono fun e w' ⟨he, hb⟩ => ⟨he, hW.up hb⟩
      (try simp only [Act.put, List.setIfInBounds_toArray, List.set_cons_zero, List.set_cons_succ])
      iterate 4
        refine wpQuiet_val (v := ?_) (by rfl) ?_ ?_
        rotate_left
        · ((intro W hW; (try cases hW); go_simp); try with_reducible rfl)
        (try simp only [Act.put, List.setIfInBounds_toArray, List.set_cons_zero, List.set_cons_succ])
      refine wpQuiet_val (v := .int .i64 cz) (by rfl) (fun W hW => ?_) ?_
      · go_simp
        exact (HC2.out W hW.b).mono fun e w' ⟨he, hb⟩ => ⟨he, hW.up hb⟩
      (try simp only [Act.put, List.setIfInBounds_toArray, List.set_cons_zero, List.set_cons_succ])
      iterate 2
        refine wpQuiet_val (v := ?_) (by rfl) ?_ ?_
        rotate_left
        · ((intro W hW; (try cases hW); go_simp); try with_reducible rfl)
        (try simp only [Act.put, List.setIfInBounds_toArray, List.set_cons_zero, List.set_cons_succ])
      refine wpQuiet_nil (fun w8 hW => ?_)
      have hC8 := hC.up hW.b
      have HB68 := Lib.hid (below_step hb67 hW.b)
      have hs78 := hW.b.size
      have HXK8 := Lib.hid ((HXK.out.up (Nat.le_refl _) hW.b).mono hs78)
      clear hW hC HF1 HF2 HC1 HC2 HKa HKb HP1 HP2 HV1 HP7 hP7 HYK HRK7 HRP7 HK7 HE7 hb67 hb
      have HNK := Lib.hid (show ks.length = (countTo ks.length 0 x.p.cells).length by rw [countTo_len])
      have hCN : ∀ i : Nat, 0 ≤ x.p.cells[i]?.getD 0 ∧ x.p.cells[i]?.getD 0 ≤ 2 * (ks.length : Int) := fun i => allIn_get HXG.out.all.cells (by omega) i
      have HCN := Lib.hid hCN
      have hlc : x.p.cells.length ≤ 9 := by rw [HXG.out.all.len]; exact hbc.2
      clear hCN HNK HXG hxl hx hxL hy hyL
      go_wp2_with fail
      go_loopw [13] (fun i wz => ∃ j : Nat, j ≤ 4 ∧ i = .int .i64 ((j : Int) - 1) ∧ Hid (Below w8.heap.size w8 wz)) (fun i _ => (3 - intOf i).toNat)
      case atStart => exact ⟨0, by omega, by simp, Lib.hid (Below.refl _ _)⟩
      case round =>
        obtain ⟨j, hj, rfl, hb⟩ := hrel
        generalize wr = w9 at *
        by_cases hlt4 : j < 4
        · skip
          have t3 : decide ((j : Int) - 1 < 3) = true := by rw [decide_eq_true_eq]; omega
          have wj : IntKind.i64.wrap ((j : Int) - 1 + 1) = (j : Int) - 1 + 1 := IntWalk.i64_in _ (by omega)
          have hs89 := hb.out.size
          have hC9 : RC w9 gb (.int .i64 (bc : Int)) (.slice an ln cn) (.slice at_ lt ct) (.slice ak ks.length ck) (.int .i64 (r : Int)) (.bool mu) (.slice ac lc cc) (.int .i64 bl) (.int .i64 en) ga 0 pb 0 y x w9 := (hC8.up hb.out).here
          have HXK9 := Lib.hid ((HXK8.out.up (Nat.le_refl _) hb.out).mono hs89)
          obtain ⟨sd, hsd⟩ : ∃ sd, sd = (j : Int) - 1 := ⟨_, rfl⟩
          rw [← hsd] at t3 wj
          have HSD := Lib.hid hsd
          have HQ1 := Lib.hid (fun W (h : Below w9.heap.size w9 W) => count_some ks.length sd (.int .i64 (bc : Int)) (.slice an ln cn) (.slice at_ lt ct) (.int .i64 (r : Int)) (.bool mu) (.slice ac lc cc) (.int .i64 bl) (.int .i64 en) x.p ak x.a x.a0 x.a1 ck x.c x.c0 x.c1 w9.heap.size W hks.1 (by omega) HXK9.out.fit h.size (HXK9.out.lies.up (Nat.le_refl _) h))
          have HQ2 := Lib.hid (fun W (h : Below w9.heap.size w9 W) => rcount_any ks.length sd (.int .i64 (bc : Int)) (.slice an ln cn) (.slice at_ lt ct) (.int .i64 (r : Int)) (.bool mu) (.slice ac lc cc) (.int .i64 bl) (.int .i64 en) x.p ak x.a x.a0 x.a1 ck x.c x.c0 x.c1 w9.heap.size W hks.1 hks.2 hlc HCN.out h.size (HXK9.out.lies.up (Nat.le_refl _) h))
          unfold PosV at HQ2
          have hcl : (countTo ks.length sd x.p.cells).length = ks.length := countTo_len _ _ _
          generalize countTo ks.length sd x.p.cells = CL at *
          rw [← hsd]
          clear hsd
          go_upto_region 16 with (fail)
          refine wp_region_held_drew (S := RC w9 gb (.int .i64 (bc : Int)) (.slice an ln cn) (.slice at_ lt ct) (.slice ak ks.length ck) (.int .i64 (r : Int)) (.bool mu) (.slice ac lc cc) (.int .i64 bl) (.int .i64 en) ga 0 pb 0 y x) (by as_aux_lemma => kernel_rfl) (hC9.up (Below.refl _ _).drew) (fun hHeld => ?_)
          have e0 : Below w9.heap.size w9 w9.drew := (Below.refl _ w9).drew
          refine wpAnyH_take (i := 0) (oi := { dst := some 116, op := Op.load 41 (Operand.tmp 8), type := 41, pos := "law.go:42", after := #[], guard := none }) (v := ?_) rfl (by as_aux_lemma => kernel_rfl) (by as_aux_lemma => kernel_rfl) (by as_aux_lemma => kernel_rfl) (fun _ _ _ h => h) (Or.inl ⟨by rfl, ?_⟩) (by assumption) ?_
          rotate_left
          · ((intro w hSw; (try cases hSw); go_simp); try with_reducible rfl)
          (try simp only [Act.put, List.setIfInBounds_toArray, List.set_cons_zero, List.set_cons_succ])
          refine wpAnyH_take (i := 1) (oi := { dst := some 117, op := Op.load 32 (Operand.tmp 12), type := 32, pos := "law.go:42", after := #[], guard := none }) (v := ?_) rfl (by as_aux_lemma => kernel_rfl) (by as_aux_lemma => kernel_rfl) (by as_aux_lemma => kernel_rfl) (fun _ _ _ h => h) (Or.inl ⟨by rfl, ?_⟩) (by assumption) ?_
          rotate_left
          · ((intro w hSw; (try cases hSw); go_simp); try with_reducible rfl)
          (try simp only [Act.put, List.setIfInBounds_toArray, List.set_cons_zero, List.set_cons_succ])
          refine wpAnyH_take (i := 2) (oi := { dst := some 118, op := Op.move (Operand.tmp 13), type := 3, pos := "law.go:42", after := #[], guard := none }) (v := ?_) rfl (by as_aux_lemma => kernel_rfl) (by as_aux_lemma => kernel_rfl) (by as_aux_lemma => kernel_rfl) (fun _ _ _ h => h) (Or.inl ⟨by rfl, ?_⟩) (by assumption) ?_
          rotate_left
          · ((intro w hSw; (try cases hSw); go_simp); try with_reducible rfl)
          (try simp only [Act.put, List.setIfInBounds_toArray, List.set_cons_zero, List.set_cons_succ])
          refine wpAnyH_take (i := 4) (oi := { dst := some 120, op := Op.load 41 (Operand.tmp 8), type := 41, pos := "law.go:42", after := #[], guard := none }) (v := ?_) rfl (by as_aux_lemma => kernel_rfl) (by as_aux_lemma => kernel_rfl) (by as_aux_lemma => kernel_rfl) (fun _ _ _ h => h) (Or.inl ⟨by rfl, ?_⟩) (by assumption) ?_
          rotate_left
          · ((intro w hSw; (try cases hSw); go_simp); try with_reducible rfl)
          (try simp only [Act.put, List.setIfInBounds_toArray, List.set_cons_zero, List.set_cons_succ])
          refine wpAnyH_take (i := 5) (oi := { dst := some 121, op := Op.load 32 (Operand.tmp 12), type := 32, pos := "law.go:42", after := #[], guard := none }) (v := ?_) rfl (by as_aux_lemma => kernel_rfl) (by as_aux_lemma => kernel_rfl) (by as_aux_lemma => kernel_rfl) (fun _ _ _ h => h) (Or.inl ⟨by rfl, ?_⟩) (by assumption) ?_
          rotate_left
          · ((intro w hSw; (try cases hSw); go_simp); try with_reducible rfl)
          (try simp only [Act.put, List.setIfInBounds_toArray, List.set_cons_zero, List.set_cons_succ])
          refine wpAnyH_take (i := 6) (oi := { dst := some 122, op := Op.move (Operand.tmp 13), type := 3, pos := "law.go:42", after := #[], guard := none }) (v := ?_) rfl (by as_aux_lemma => kernel_rfl) (by as_aux_lemma => kernel_rfl) (by as_aux_lemma => kernel_rfl) (fun _ _ _ h => h) (Or.inl ⟨by rfl, ?_⟩) (by assumption) ?_
          rotate_left
          · ((intro w hSw; (try cases hSw); go_simp); try with_reducible rfl)
          (try simp only [Act.put, List.setIfInBounds_toArray, List.set_cons_zero, List.set_cons_succ])
          refine wpAnyH_ready (rs := [3]) (by as_aux_lemma => kernel_rfl) (by simp) ?_
          refine AllReadyH.cons (o := { dst := some 119, op := Op.call { callee := Callee.value (Operand.func 29), args := #[Operand.tmp 116, Operand.tmp 117, Operand.tmp 118], argTypes := #[41, 32, 3] }, type := 29, pos := "law.go:42", after := #[{ on := 0, ground := Ground.data }, { on := 1, ground := Ground.data }, { on := 2, ground := Ground.data }], guard := none }) rfl (fun K hK => ?_) AllReadyH.nil
          refine step_call_g rfl 29 _ _ #[.agg #[.int .i64 (bc : Int), .slice an ln cn, .slice at_ lt ct, .slice ak ks.length ck, .int .i64 (r : Int), .bool mu, .slice ac lc cc, .int .i64 bl, .int .i64 en], .agg #[.slice x.a x.p.cells.length x.c, .slice x.a0 x.p.h0.length x.c0, .slice x.a1 x.p.h1.length x.c1, .int .i64 x.p.rights, .int .i64 x.p.side], .int .i64 sd] rfl rfl (enters_of Tryz.func29 (by as_aux_lemma => kernel_rfl) rfl) ((HQ1.out _ e0).mono ?_)
          rintro e w10 ⟨gq1, cq1, rfl, hO1, hb10⟩
          have e10 := below_step e0 hb10
          refine ⟨_, rfl, hK.out _ _ (hC9.up e10) (fun _ => ?_)⟩
          clear hK K
          (try simp only [Act.put, List.setIfInBounds_toArray, List.set_cons_zero, List.set_cons_succ])
          refine wpAnyH_ready (rs := [7]) (by as_aux_lemma => kernel_rfl) (by simp) ?_
          refine AllReadyH.cons (o := { dst := some 123, op := Op.call { callee := Callee.value (Operand.func 30), args := #[Operand.tmp 120, Operand.tmp 121, Operand.tmp 122], argTypes := #[41, 32, 3] }, type := 29, pos := "law.go:42", after := #[{ on := 4, ground := Ground.data }, { on := 5, ground := Ground.data }, { on := 6, ground := Ground.data }, { on := 3, ground := Ground.chain }], guard := none }) rfl (fun K hK => ?_) AllReadyH.nil
          refine step_call_g rfl 30 _ _ #[.agg #[.int .i64 (bc : Int), .slice an ln cn, .slice at_ lt ct, .slice ak ks.length ck, .int .i64 (r : Int), .bool mu, .slice ac lc cc, .int .i64 bl, .int .i64 en], .agg #[.slice x.a x.p.cells.length x.c, .slice x.a0 x.p.h0.length x.c0, .slice x.a1 x.p.h1.length x.c1, .int .i64 x.p.rights, .int .i64 x.p.side], .int .i64 sd] rfl rfl (enters_of Tryz.func30 (by as_aux_lemma => kernel_rfl) rfl) ((HQ2.out _ e10).mono ?_)
          rintro e w11 ⟨gq2, cq2, rfl, hO2, hb11⟩
          have e11 := below_step e10 hb11
          refine ⟨_, rfl, hK.out _ _ (hC9.up e11) (fun _ => ?_)⟩
          clear hK K
          (try simp only [Act.put, List.setIfInBounds_toArray, List.set_cons_zero, List.set_cons_succ])
          have hI1 := ((own_ints hO1).up (Nat.le_refl _) hb11).mono hb11.size
          have hI2 := own_ints hO2
          refine wpAnyH_ready (rs := [8]) (by as_aux_lemma => kernel_rfl) (by simp) ?_
          refine AllReadyH.cons (o := { dst := some 124, op := Op.call { callee := Callee.value (Operand.func 28), args := #[Operand.tmp 119, Operand.tmp 123], argTypes := #[29, 29] }, type := 4, pos := "law.go:42", after := #[{ on := 3, ground := Ground.data }, { on := 7, ground := Ground.data }, { on := 7, ground := Ground.chain }], guard := none }) rfl (fun K hK => ?_) AllReadyH.nil
          refine step_call_g rfl 28 _ _ #[.slice (some ⟨gq1, 0, none⟩) ks.length cq1, .slice (some ⟨gq2, 0, none⟩) ks.length cq2] rfl rfl (enters_of Tryz.func28 (by as_aux_lemma => kernel_rfl) rfl) ((ints_same_r CL (some ⟨gq1, 0, none⟩) (some ⟨gq2, 0, none⟩) ks.length cq1 cq2 _ _ hcl.symm (by unfold maxLen; omega) hI1 hI2).mono ?_)
          rintro e w12 ⟨rfl, hb12⟩
          have e12 := below_step e11 hb12
          refine ⟨_, rfl, hK.out _ _ (hC9.up e12) (fun _ => ?_)⟩
          clear hK K
          (try simp only [Act.put, List.setIfInBounds_toArray, List.set_cons_zero, List.set_cons_succ])
          refine wpAnyH_take (i := 9) (oi := { dst := some 125, op := Op.unOp UnOp.not 4 (Operand.tmp 124), type := 4, pos := "law.go:42", after := #[{ on := 8, ground := Ground.data }], guard := none }) (v := ?_) rfl (by as_aux_lemma => kernel_rfl) (by as_aux_lemma => kernel_rfl) (by as_aux_lemma => kernel_rfl) (fun _ _ _ h => h) (Or.inl ⟨by rfl, ?_⟩) (by assumption) ?_
          rotate_left
          · ((intro w hSw; (try cases hSw); go_simp); try with_reducible rfl)
          (try simp only [Act.put, List.setIfInBounds_toArray, List.set_cons_zero, List.set_cons_succ])
          refine wpAnyH_done (by as_aux_lemma => kernel_rfl) ?_ _
          have HBN := Lib.hid (below_step hb.out e12)
          clear e0 e10 e11 e12 hb10 hb11 hb12 hO1 hO2 hI1 hI2 hC9 hHeld HQ1 HQ2 hb
          go_wp2_with fail
          go_roundw
          case rel => exact ⟨j + 1, by omega, by have h9 := HSD.out; rw [h9]; go_num, HBN⟩
          case measure => have h9 := HSD.out; simp [intOf]; omega
        · have t3 : decide ((j : Int) - 1 < 3) = false := by rw [decide_eq_false_iff_not]; omega
          have HBN := Lib.hid (below_step HB68.out hb.out)
          clear hb hC8
          go_wp2_with fail
          go_roundw
          case rel => exact ⟨k + 1, by omega, by go_num, HBN⟩
          case measure => simp [intOf]; omega
    · have t2 : decide (k < L.length) = false := by simpa using hlt
      have t2' : decide ((k : Int) < (L.length : Int)) = false := by simpa using hlt
      have HBE := Lib.hid (below_step HBW6.out hb.out)
      clear hb
      go_wp2
      go_ret
      exact ⟨rfl, HBE.out⟩
end Go.Proofs.YtphhkfelpckilaaGreatDoor
