/-
  Of the reference: hands, Valid.
-/
import Derived.Test.YtepbmgbomdekaaaDValid
import Derived.Test.YtepbmgbomdekaaaXBx
import Derived.Test.YtepbmgbomdekaaaPush
import Derived.Test.YtepbmgbomdekaaaQTail
import Derived.Deep.QuietTactic
namespace Go.Proofs.Ytepbmgbomdekaaa
open Go Go.RowKit Go.Lib Go.Sort
attribute [local irreducible] Go.wpQuiet

theorem hp_new_v (W : World) (o : Obj) {b : Nat} (hb : b = W.heap.size) : (W.alloc o).heap[b]? = some o := by subst hb; exact World.alloc_heap_new W o
theorem hp_old_v {W : World} {o o' : Obj} {b : Nat} (h : W.heap[b]? = some o') : (W.alloc o).heap[b]? = some o' := (Below.heap_alloc _ _ _ (bx_lt h)).trans h
set_option maxRecDepth 100000 in
set_option maxHeartbeats 1500000 in
theorem rhands_any (ks : List Bool) (vb0 vr vn vt vm vc vb ve : Value) (h : List Int) (ak ah : Option Addr) (ck ch N : Nat) (w : World) (hl : h.length ≤ maxLen) (hks : ks.length ≤ 1000) (hN : N ≤ w.heap.size) (hK : Keeps N w ak ks) (hH : Ints N w ah h) :
    Calls Try.prog 41 #[.agg #[vb0, vn, vt, .slice ak ks.length ck, vr, vm, vc, vb, ve], .slice ah h.length ch] w fun e w' => e = .returned (.bool (handB ks h)) ∧ Below w.heap.size w w' := by
  unfold maxLen at hl
  have hA : Below w.heap.size w (w.alloc (.cells #[vb0, vn, vt, .slice ak ks.length ck, vr, vm, vc, vb, ve] 35)) := below_alloc (Below.refl _ _) _
  have hG := World.alloc_heap_new w (.cells #[vb0, vn, vt, .slice ak ks.length ck, vr, vm, vc, vb, ve] 35)
  have hK0 := hK.below (hA.mono hN)
  have hH0 := hH.up hN hA
  by_cases hlen : h.length = ks.length
  · have HNO := Lib.hid (fun j hj hn => handB_no (ks := ks) (h := h) (j := j) hj hn)
    have HY := Lib.hid (fun ha => handB_yes (h := h) (ks := ks) hlen ha)
    have HL := Lib.hid hlen
    have hl9 : h.length ≤ 1000 := by omega
    rw [← hlen] at hG hA hK0 hH0 ⊢
    have hK1 := Lib.hid hK0
    have hH1 := Lib.hid hH0
    have HA := Lib.hid hA
    clear hlen hK hH hK0 hH0 hA
    obtain ⟨RR, hRR⟩ : ∃ RR, handB ks h = RR := ⟨_, rfl⟩
    rw [hRR]
    have HRR := Lib.hid hRR
    clear hRR
    go_enter Try.func41, Try.ntmps41
    go_upto_region 1 with (fail)
    generalize w.alloc (.cells #[vb0, vn, vt, .slice ak h.length ck, vr, vm, vc, vb, ve] 35) = w0 at *
    have g3 := bx_cell hG 3 rfl
    go_wp2_with fail
    go_loopw [5] (fun i wr => ∃ k : Nat, k ≤ h.length ∧ i = .int .i64 k ∧ Hid (∀ j, j < k → handOk ks h j = true) ∧ wr = w0) (fun i _ => h.length - (RowKit.intOf i).toNat)
    case atStart => exact ⟨0, Nat.zero_le _, rfl, Lib.hid (fun j hj => absurd hj (Nat.not_lt_zero _)), rfl⟩
    case round =>
      obtain ⟨k, hk, rfl, hall, rfl⟩ := hrel
      by_cases hlt : k < h.length
      · have t1 : decide (k < h.length) = true := by simpa using hlt
        have t1' : decide ((k : Int) < (h.length : Int)) = true := by simpa using hlt
        have t3 : (0 : Int) ≤ (k : Int) := by omega
        have t4 : (k : Int) < (h.length : Int) := by omega
        obtain ⟨bb, off, hbe, _, hc⟩ := hH1.out.at_ hlt
        subst hbe
        obtain ⟨kb, koff, hke, _, hkc⟩ := hK1.out.at_ (j := k) (by rw [← HL.out]; exact hlt)
        subst hke
        have HOK := Lib.hid (show handOk ks h k = upToB (h[k]?.getD 0) (if ks[k]?.getD false = true then 8 else 0) from rfl)
        have HN1 := Lib.hid (fun hn => HNO.out k hlt hn)
        generalize h[k]?.getD 0 = x at *
        generalize ks[k]?.getD false = kv at *
        by_cases hx1 : x < 0
        · skip
          have d1 : decide (x < 0) = true := by simpa using hx1
          have HF := Lib.hid (show RR = false by
            rw [← HRR.out]; exact HN1.out (by rw [HOK.out]; unfold upToB; rw [Bool.eq_false_iff]; simp; omega))
          clear hx1
          go_wp2
          go_ret
          exact ⟨by rw [HF.out]; rfl, HA.out⟩
        · have d1 : decide (x < 0) = false := by simpa using hx1
          by_cases hx2 : 8 < x
          · skip
            have d2 : decide (8 < x) = true := by simpa using hx2
            have HF := Lib.hid (show RR = false by
              rw [← HRR.out]; exact HN1.out (by rw [HOK.out]; unfold upToB; rw [Bool.eq_false_iff]; cases kv <;> simp <;> omega))
            clear hx1 hx2
            go_wp2
            go_ret
            exact ⟨by rw [HF.out]; rfl, HA.out⟩
          · have d2 : decide (8 < x) = false := by simpa using hx2
            by_cases hx3 : 0 < x
            · have d3 : decide (0 < x) = true := by simpa using hx3
              cases kv with
              | false =>
                have HF := Lib.hid (show RR = false by
                  rw [← HRR.out]; exact HN1.out (by rw [HOK.out]; unfold upToB; rw [Bool.eq_false_iff]; simp; omega))
                clear hx1 hx2 hx3
                go_wp2
                go_ret
                exact ⟨by rw [HF.out]; rfl, HA.out⟩
              | true =>
                have HA2 := Lib.hid (show ∀ j, j < k + 1 → handOk ks h j = true from fun j hj => by
                  by_cases e : j = k
                  · subst e; rw [HOK.out]; unfold upToB; simp; omega
                  · exact hall.out j (by omega))
                clear hx1 hx2 hx3 hall
                go_wp2
                go_roundw
                case rel => exact ⟨k + 1, by omega, by go_num, HA2, trivial⟩
                case measure => simp [RowKit.intOf]; omega
            · skip
              have d3 : decide (0 < x) = false := by simpa using hx3
              have HA2 := Lib.hid (show ∀ j, j < k + 1 → handOk ks h j = true from fun j hj => by
                by_cases e : j = k
                · subst e; rw [HOK.out]; unfold upToB; cases kv <;> simp <;> omega
                · exact hall.out j (by omega))
              clear hx1 hx2 hx3 hall
              go_wp2
              go_roundw
              case rel => exact ⟨k + 1, by omega, by go_num, HA2, trivial⟩
              case measure => simp [RowKit.intOf]; omega
      · skip
        obtain rfl : k = h.length := by omega
        have t1 : decide (h.length < h.length) = false := by simp
        have t1' : decide ((h.length : Int) < (h.length : Int)) = false := by simp
        have HF := Lib.hid (show RR = true by rw [← HRR.out]; exact HY.out hall.out)
        clear hall
        go_wp2
        go_ret
        exact ⟨by rw [HF.out]; rfl, HA.out⟩
  · have HF := Lib.hid (handB_len (h := h) (ks := ks) hlen)
    have hne : ((h.length : Int) != (ks.length : Int)) = true := by simp; omega
    have hne2 : decide ((h.length : Int) = (ks.length : Int)) = false := by simp; omega
    have HA := Lib.hid hA
    clear hK hH hK0 hH0 hA
    go_enter Try.func41, Try.ntmps41
    go_upto_region 1 with (fail)
    generalize w.alloc (.cells #[vb0, vn, vt, .slice ak ks.length ck, vr, vm, vc, vb, ve] 35) = w0 at *
    have g3 := bx_cell hG 3 rfl
    go_wp2
    go_ret
    exact ⟨by rw [HF.out]; rfl, HA.out⟩
/-- A game's box and a position's, side by side. -/
structure VC (w : World) (g q : Nat) (x0 x1 x2 x3 x4 x5 x6 x7 x8 y0 y1 y2 y3 y4 : Value) (W : World) : Prop where
  b : Below w.heap.size w W
  g0 : W.cell? ⟨g, 0, none⟩ = some x0
  g1 : W.cell? ⟨g, 1, none⟩ = some x1
  g2 : W.cell? ⟨g, 2, none⟩ = some x2
  g3 : W.cell? ⟨g, 3, none⟩ = some x3
  g4 : W.cell? ⟨g, 4, none⟩ = some x4
  g5 : W.cell? ⟨g, 5, none⟩ = some x5
  g6 : W.cell? ⟨g, 6, none⟩ = some x6
  g7 : W.cell? ⟨g, 7, none⟩ = some x7
  g8 : W.cell? ⟨g, 8, none⟩ = some x8
  q0 : W.cell? ⟨q, 0, none⟩ = some y0
  q1 : W.cell? ⟨q, 1, none⟩ = some y1
  q2 : W.cell? ⟨q, 2, none⟩ = some y2
  q3 : W.cell? ⟨q, 3, none⟩ = some y3
  q4 : W.cell? ⟨q, 4, none⟩ = some y4
theorem VC.up {w W W' : World} {g q : Nat} {x0 x1 x2 x3 x4 x5 x6 x7 x8 y0 y1 y2 y3 y4 : Value} (h : VC w g q x0 x1 x2 x3 x4 x5 x6 x7 x8 y0 y1 y2 y3 y4 W) (hb : Below W.heap.size W W') : VC w g q x0 x1 x2 x3 x4 x5 x6 x7 x8 y0 y1 y2 y3 y4 W' :=
  ⟨below_step h.b hb, cell_keep hb h.g0, cell_keep hb h.g1, cell_keep hb h.g2, cell_keep hb h.g3, cell_keep hb h.g4, cell_keep hb h.g5, cell_keep hb h.g6, cell_keep hb h.g7, cell_keep hb h.g8, cell_keep hb h.q0, cell_keep hb h.q1, cell_keep hb h.q2, cell_keep hb h.q3, cell_keep hb h.q4⟩
theorem VC.of {W : World} {g q : Nat} {x0 x1 x2 x3 x4 x5 x6 x7 x8 y0 y1 y2 y3 y4 : Value} {T U : TypeId} (hg : W.heap[g]? = some (.cells #[x0, x1, x2, x3, x4, x5, x6, x7, x8] T (0, 0))) (hq : W.heap[q]? = some (.cells #[y0, y1, y2, y3, y4] U (0, 0))) : VC W g q x0 x1 x2 x3 x4 x5 x6 x7 x8 y0 y1 y2 y3 y4 W :=
  ⟨Below.refl _ _, bx_cell hg 0 rfl, bx_cell hg 1 rfl, bx_cell hg 2 rfl, bx_cell hg 3 rfl, bx_cell hg 4 rfl, bx_cell hg 5 rfl, bx_cell hg 6 rfl, bx_cell hg 7 rfl, bx_cell hg 8 rfl, bx_cell hq 0 rfl, bx_cell hq 1 rfl, bx_cell hq 2 rfl, bx_cell hq 3 rfl, bx_cell hq 4 rfl⟩
set_option maxRecDepth 100000 in
set_option maxHeartbeats 1500000 in
theorem rvalid_any (bc r : Nat) (ks : List Bool) (vn vt vm vc vb ve : Value) (p : PosS) (ak b b0 b1 : Option Addr) (ck c c0 c1 N : Nat) (w : World) (hr : r ≤ 2) (hks : ks.length ≤ 3) (hp : PosFit p) (hN : N ≤ w.heap.size) (hP : PosIn N w b b0 b1 p) (hK : Keeps N w ak ks) :
    Calls Try.prog 26 #[.agg #[.int .i64 (bc : Int), vn, vt, .slice ak ks.length ck, .int .i64 (r : Int), vm, vc, vb, ve], PosV b b0 b1 c c0 c1 p] w fun e w' => e = .returned (.bool (posB bc r ks p)) ∧ Below w.heap.size w w' := by
  obtain ⟨rv, hrv⟩ : ∃ rv : Int, (r : Int) = rv := ⟨_, rfl⟩
  rw [hrv]
  have HRV := Lib.hid hrv
  clear hrv
  have hA : Below w.heap.size w ((w.alloc (.cells #[.int .i64 (bc : Int), vn, vt, .slice ak ks.length ck, .int .i64 rv, vm, vc, vb, ve] 35)).alloc (.cells #[.slice b p.cells.length c, .slice b0 p.h0.length c0, .slice b1 p.h1.length c1, .int .i64 p.rights, .int .i64 p.side] 27)) := below_alloc (below_alloc (Below.refl _ _) _) _
  have hG : ((w.alloc (.cells #[.int .i64 (bc : Int), vn, vt, .slice ak ks.length ck, .int .i64 rv, vm, vc, vb, ve] 35)).alloc (.cells #[.slice b p.cells.length c, .slice b0 p.h0.length c0, .slice b1 p.h1.length c1, .int .i64 p.rights, .int .i64 p.side] 27)).heap[w.heap.size]? = some (.cells #[.int .i64 (bc : Int), vn, vt, .slice ak ks.length ck, .int .i64 rv, vm, vc, vb, ve] 35 (0, 0)) := hp_old_v (World.alloc_heap_new _ _)
  have hX : ((w.alloc (.cells #[.int .i64 (bc : Int), vn, vt, .slice ak ks.length ck, .int .i64 rv, vm, vc, vb, ve] 35)).alloc (.cells #[.slice b p.cells.length c, .slice b0 p.h0.length c0, .slice b1 p.h1.length c1, .int .i64 p.rights, .int .i64 p.side] 27)).heap[w.heap.size + 1]? = some (.cells #[.slice b p.cells.length c, .slice b0 p.h0.length c0, .slice b1 p.h1.length c1, .int .i64 p.rights, .int .i64 p.side] 27 (0, 0)) := hp_new_v _ _ (by simp)
  obtain ⟨RR, hRR⟩ : ∃ RR, posB bc r ks p = RR := ⟨_, rfl⟩
  rw [hRR]
  unfold posB at hRR
  have HRR := Lib.hid hRR
  clear hRR
  unfold PosV
  go_enter Try.func26, Try.ntmps26
  go_upto_region 1 with (fail)
  generalize (w.alloc (.cells #[.int .i64 (bc : Int), vn, vt, .slice ak ks.length ck, .int .i64 rv, vm, vc, vb, ve] 35)).alloc (.cells #[.slice b p.cells.length c, .slice b0 p.h0.length c0, .slice b1 p.h1.length c1, .int .i64 p.rights, .int .i64 p.side] 27) = w0 at *
  have hs0 := hA.size
  have HP0 := Lib.hid (hP.up hN hA)
  have HK0 := Lib.hid (hK.below (hA.mono hN))
  have HA := Lib.hid hA
  have HG := Lib.hid hG
  have HX := Lib.hid hX
  have hgl := bx_lt hG
  have hxl := bx_lt hX
  have hcl := hp.cells
  unfold maxLen at hcl
  have HH0 := Lib.hid (fun W (h : Below w0.heap.size w0 W) => rhands_any ks (.int .i64 (bc : Int)) (.int .i64 rv) vn vt vm vc vb ve p.h0 ak b0 ck c0 N W hp.h0 (by omega) (Nat.le_trans hN (Nat.le_trans hs0 h.size)) (HK0.out.below (h.mono (Nat.le_trans hN hs0))) (HP0.out.up (Nat.le_trans hN hs0) h).h0)
  have HH1 := Lib.hid (fun W (h : Below w0.heap.size w0 W) => rhands_any ks (.int .i64 (bc : Int)) (.int .i64 rv) vn vt vm vc vb ve p.h1 ak b1 ck c1 N W hp.h1 (by omega) (Nat.le_trans hN (Nat.le_trans hs0 h.size)) (HK0.out.below (h.mono (Nat.le_trans hN hs0))) (HP0.out.up (Nat.le_trans hN hs0) h).h1)
  have hC := (VC.of hG hX).up (Below.refl _ _).drew
  clear hP hK hA hG hX hp
  refine wp_region_quiet (C := VC w0 w.heap.size (w.heap.size + 1) _ _ _ _ _ _ _ _ _ _ _ _ _ _) (by kernel_rfl) (by kernel_rfl) hC ?_
  clear hC
  dsimp only
  by_cases h1 : p.cells.length = bc
  · have hne : ((p.cells.length : Int) != (bc : Int)) = false := by simp; omega
    have H1 := Lib.hid h1
    clear h1
    iterate 12
      refine wpQuiet_val (v := ?_) (by rfl) ?_ ?_
      rotate_left
      · ((intro W hW; (try cases hW); go_simp); try with_reducible rfl)
      (try simp only [Act.put, List.setIfInBounds_toArray, List.set_cons_zero, List.set_cons_succ])
    refine wpQuiet_val (v := .bool (handB ks p.h0)) (by rfl) (fun W hW => ?_) ?_
    · go_simp
      exact (HH0.out W hW.b).mono fun e w' ⟨he, hb⟩ => ⟨he, hW.up hb⟩
    (try simp only [Act.put, List.setIfInBounds_toArray, List.set_cons_zero, List.set_cons_succ])
    cases hh0 : handB ks p.h0 with
    | false =>
      have HF := Lib.hid (show RR = false by rw [← HRR.out, hh0]; simp)
      clear hh0
      iterate 3
        refine wpQuiet_val (v := ?_) (by rfl) ?_ ?_
        rotate_left
        · ((intro W hW; (try cases hW); go_simp); try with_reducible rfl)
        (try simp only [Act.put, List.setIfInBounds_toArray, List.set_cons_zero, List.set_cons_succ])
      iterate 6
        refine wpQuiet_off (by rfl) ?_
        (try simp only [Act.put, List.setIfInBounds_toArray, List.set_cons_zero, List.set_cons_succ])
      iterate 2
        refine wpQuiet_val (v := ?_) (by rfl) ?_ ?_
        rotate_left
        · ((intro W hW; (try cases hW); go_simp); try with_reducible rfl)
        (try simp only [Act.put, List.setIfInBounds_toArray, List.set_cons_zero, List.set_cons_succ])
      iterate 3
        refine wpQuiet_off (by rfl) ?_
        (try simp only [Act.put, List.setIfInBounds_toArray, List.set_cons_zero, List.set_cons_succ])
      iterate 2
        refine wpQuiet_val (v := ?_) (by rfl) ?_ ?_
        rotate_left
        · ((intro W hW; (try cases hW); go_simp); try with_reducible rfl)
        (try simp only [Act.put, List.setIfInBounds_toArray, List.set_cons_zero, List.set_cons_succ])
      iterate 6
        refine wpQuiet_off (by rfl) ?_
        (try simp only [Act.put, List.setIfInBounds_toArray, List.set_cons_zero, List.set_cons_succ])
      iterate 2
        refine wpQuiet_val (v := ?_) (by rfl) ?_ ?_
        rotate_left
        · ((intro W hW; (try cases hW); go_simp); try with_reducible rfl)
        (try simp only [Act.put, List.setIfInBounds_toArray, List.set_cons_zero, List.set_cons_succ])
      iterate 3
        refine wpQuiet_off (by rfl) ?_
        (try simp only [Act.put, List.setIfInBounds_toArray, List.set_cons_zero, List.set_cons_succ])
      iterate 2
        refine wpQuiet_val (v := ?_) (by rfl) ?_ ?_
        rotate_left
        · ((intro W hW; (try cases hW); go_simp); try with_reducible rfl)
        (try simp only [Act.put, List.setIfInBounds_toArray, List.set_cons_zero, List.set_cons_succ])
      iterate 3
        refine wpQuiet_off (by rfl) ?_
        (try simp only [Act.put, List.setIfInBounds_toArray, List.set_cons_zero, List.set_cons_succ])
      refine wpQuiet_val (v := ?_) (by rfl) ?_ ?_
      rotate_left
      · ((intro W hW; (try cases hW); go_simp); try with_reducible rfl)
      (try simp only [Act.put, List.setIfInBounds_toArray, List.set_cons_zero, List.set_cons_succ])
      refine wpQuiet_nil (fun W hW => ?_)
      have HBN := Lib.hid (HA.out.trans (hW.b.mono hs0))
      clear hW
      go_wp2
      go_ret
      exact ⟨by rw [HF.out]; rfl, HBN.out⟩
    | true =>
      have HHH0 := Lib.hid hh0
      clear hh0
      iterate 7
        refine wpQuiet_val (v := ?_) (by rfl) ?_ ?_
        rotate_left
        · ((intro W hW; (try cases hW); go_simp); try with_reducible rfl)
        (try simp only [Act.put, List.setIfInBounds_toArray, List.set_cons_zero, List.set_cons_succ])
      refine wpQuiet_val (v := .bool (handB ks p.h1)) (by rfl) (fun W hW => ?_) ?_
      · go_simp
        exact (HH1.out W hW.b).mono fun e w' ⟨he, hb⟩ => ⟨he, hW.up hb⟩
      (try simp only [Act.put, List.setIfInBounds_toArray, List.set_cons_zero, List.set_cons_succ])
      cases hh1 : handB ks p.h1 with
      | false =>
        have HF := Lib.hid (show RR = false by rw [← HRR.out, hh1]; simp)
        clear hh1
        iterate 3
          refine wpQuiet_val (v := ?_) (by rfl) ?_ ?_
          rotate_left
          · ((intro W hW; (try cases hW); go_simp); try with_reducible rfl)
          (try simp only [Act.put, List.setIfInBounds_toArray, List.set_cons_zero, List.set_cons_succ])
        iterate 3
          refine wpQuiet_off (by rfl) ?_
          (try simp only [Act.put, List.setIfInBounds_toArray, List.set_cons_zero, List.set_cons_succ])
        iterate 2
          refine wpQuiet_val (v := ?_) (by rfl) ?_ ?_
          rotate_left
          · ((intro W hW; (try cases hW); go_simp); try with_reducible rfl)
          (try simp only [Act.put, List.setIfInBounds_toArray, List.set_cons_zero, List.set_cons_succ])
        iterate 6
          refine wpQuiet_off (by rfl) ?_
          (try simp only [Act.put, List.setIfInBounds_toArray, List.set_cons_zero, List.set_cons_succ])
        iterate 2
          refine wpQuiet_val (v := ?_) (by rfl) ?_ ?_
          rotate_left
          · ((intro W hW; (try cases hW); go_simp); try with_reducible rfl)
          (try simp only [Act.put, List.setIfInBounds_toArray, List.set_cons_zero, List.set_cons_succ])
        iterate 3
          refine wpQuiet_off (by rfl) ?_
          (try simp only [Act.put, List.setIfInBounds_toArray, List.set_cons_zero, List.set_cons_succ])
        iterate 2
          refine wpQuiet_val (v := ?_) (by rfl) ?_ ?_
          rotate_left
          · ((intro W hW; (try cases hW); go_simp); try with_reducible rfl)
          (try simp only [Act.put, List.setIfInBounds_toArray, List.set_cons_zero, List.set_cons_succ])
        iterate 3
          refine wpQuiet_off (by rfl) ?_
          (try simp only [Act.put, List.setIfInBounds_toArray, List.set_cons_zero, List.set_cons_succ])
        refine wpQuiet_val (v := ?_) (by rfl) ?_ ?_
        rotate_left
        · ((intro W hW; (try cases hW); go_simp); try with_reducible rfl)
        (try simp only [Act.put, List.setIfInBounds_toArray, List.set_cons_zero, List.set_cons_succ])
        refine wpQuiet_nil (fun W hW => ?_)
        have HBN := Lib.hid (HA.out.trans (hW.b.mono hs0))
        clear hW
        go_wp2
        go_ret
        exact ⟨by rw [HF.out]; rfl, HBN.out⟩
      | true =>
        have HHH1 := Lib.hid hh1
        clear hh1
        iterate 3
          refine wpQuiet_val (v := ?_) (by rfl) ?_ ?_
          rotate_left
          · ((intro W hW; (try cases hW); go_simp); try with_reducible rfl)
          (try simp only [Act.put, List.setIfInBounds_toArray, List.set_cons_zero, List.set_cons_succ])
        by_cases h4 : p.rights < 0
        · skip
          have d4 : decide (p.rights < 0) = true := by simpa using h4
          have HF := Lib.hid (show RR = false by rw [← HRR.out, show upToB p.rights (2 ^ r - 1) = false by unfold upToB; rw [Bool.eq_false_iff]; simp; omega]; simp)
          clear h4
          iterate 5
            refine wpQuiet_val (v := ?_) (by rfl) ?_ ?_
            rotate_left
            · ((intro W hW; (try cases hW); go_simp); try with_reducible rfl)
            (try simp only [Act.put, List.setIfInBounds_toArray, List.set_cons_zero, List.set_cons_succ])
          iterate 6
            refine wpQuiet_off (by rfl) ?_
            (try simp only [Act.put, List.setIfInBounds_toArray, List.set_cons_zero, List.set_cons_succ])
          iterate 2
            refine wpQuiet_val (v := ?_) (by rfl) ?_ ?_
            rotate_left
            · ((intro W hW; (try cases hW); go_simp); try with_reducible rfl)
            (try simp only [Act.put, List.setIfInBounds_toArray, List.set_cons_zero, List.set_cons_succ])
          iterate 3
            refine wpQuiet_off (by rfl) ?_
            (try simp only [Act.put, List.setIfInBounds_toArray, List.set_cons_zero, List.set_cons_succ])
          iterate 2
            refine wpQuiet_val (v := ?_) (by rfl) ?_ ?_
            rotate_left
            · ((intro W hW; (try cases hW); go_simp); try with_reducible rfl)
            (try simp only [Act.put, List.setIfInBounds_toArray, List.set_cons_zero, List.set_cons_succ])
          iterate 3
            refine wpQuiet_off (by rfl) ?_
            (try simp only [Act.put, List.setIfInBounds_toArray, List.set_cons_zero, List.set_cons_succ])
          refine wpQuiet_val (v := ?_) (by rfl) ?_ ?_
          rotate_left
          · ((intro W hW; (try cases hW); go_simp); try with_reducible rfl)
          (try simp only [Act.put, List.setIfInBounds_toArray, List.set_cons_zero, List.set_cons_succ])
          refine wpQuiet_nil (fun W hW => ?_)
          have HBN := Lib.hid (HA.out.trans (hW.b.mono hs0))
          clear hW
          go_wp2
          go_ret
          exact ⟨by rw [HF.out]; rfl, HBN.out⟩
        · have d4 : decide (p.rights < 0) = false := by simpa using h4
          iterate 5
            refine wpQuiet_val (v := ?_) (by rfl) ?_ ?_
            rotate_left
            · ((intro W hW; (try cases hW); go_simp); try with_reducible rfl)
            (try simp only [Act.put, List.setIfInBounds_toArray, List.set_cons_zero, List.set_cons_succ])
          rcases (show (rv = 0 ∧ r = 0) ∨ (rv = 1 ∧ r = 1) ∨ (rv = 2 ∧ r = 2) by have := HRV.out; omega) with ⟨rfl, rfl⟩ | ⟨rfl, rfl⟩ | ⟨rfl, rfl⟩
          · skip
            have wM : IntKind.i64.wrap 1 = 1 := rfl
            by_cases h5 : 1 ≤ p.rights
            · have d5 : decide (1 ≤ p.rights) = true := by simpa using h5
              have HF := Lib.hid (show RR = false by rw [← HRR.out, show upToB p.rights ((2 : Int) ^ 0 - 1) = false by unfold upToB; rw [Bool.eq_false_iff]; simp; omega]; simp)
              clear h5 h4
              iterate 8
                refine wpQuiet_val (v := ?_) (by rfl) ?_ ?_
                rotate_left
                · ((intro W hW; (try cases hW); go_simp); try with_reducible rfl)
                (try simp only [Act.put, List.setIfInBounds_toArray, List.set_cons_zero, List.set_cons_succ])
              iterate 3
                refine wpQuiet_off (by rfl) ?_
                (try simp only [Act.put, List.setIfInBounds_toArray, List.set_cons_zero, List.set_cons_succ])
              iterate 2
                refine wpQuiet_val (v := ?_) (by rfl) ?_ ?_
                rotate_left
                · ((intro W hW; (try cases hW); go_simp); try with_reducible rfl)
                (try simp only [Act.put, List.setIfInBounds_toArray, List.set_cons_zero, List.set_cons_succ])
              iterate 3
                refine wpQuiet_off (by rfl) ?_
                (try simp only [Act.put, List.setIfInBounds_toArray, List.set_cons_zero, List.set_cons_succ])
              refine wpQuiet_val (v := ?_) (by rfl) ?_ ?_
              rotate_left
              · ((intro W hW; (try cases hW); go_simp); try with_reducible rfl)
              (try simp only [Act.put, List.setIfInBounds_toArray, List.set_cons_zero, List.set_cons_succ])
              refine wpQuiet_nil (fun W hW => ?_)
              have HBN := Lib.hid (HA.out.trans (hW.b.mono hs0))
              clear hW
              go_wp2
              go_ret
              exact ⟨by rw [HF.out]; rfl, HBN.out⟩
            · have d5 : decide (1 ≤ p.rights) = false := by simpa using h5
              iterate 8
                refine wpQuiet_val (v := ?_) (by rfl) ?_ ?_
                rotate_left
                · ((intro W hW; (try cases hW); go_simp); try with_reducible rfl)
                (try simp only [Act.put, List.setIfInBounds_toArray, List.set_cons_zero, List.set_cons_succ])
              by_cases h6 : p.side < 0
              · have d6 : decide (p.side < 0) = true := by simpa using h6
                have HF := Lib.hid (show RR = false by rw [← HRR.out, show upToB p.side 1 = false by unfold upToB; rw [Bool.eq_false_iff]; simp; omega]; simp)
                clear h5 h4 h6
                iterate 5
                  refine wpQuiet_val (v := ?_) (by rfl) ?_ ?_
                  rotate_left
                  · ((intro W hW; (try cases hW); go_simp); try with_reducible rfl)
                  (try simp only [Act.put, List.setIfInBounds_toArray, List.set_cons_zero, List.set_cons_succ])
                iterate 3
                  refine wpQuiet_off (by rfl) ?_
                  (try simp only [Act.put, List.setIfInBounds_toArray, List.set_cons_zero, List.set_cons_succ])
                refine wpQuiet_val (v := ?_) (by rfl) ?_ ?_
                rotate_left
                · ((intro W hW; (try cases hW); go_simp); try with_reducible rfl)
                (try simp only [Act.put, List.setIfInBounds_toArray, List.set_cons_zero, List.set_cons_succ])
                refine wpQuiet_nil (fun W hW => ?_)
                have HBN := Lib.hid (HA.out.trans (hW.b.mono hs0))
                clear hW
                go_wp2
                go_ret
                exact ⟨by rw [HF.out]; rfl, HBN.out⟩
              · have d6 : decide (p.side < 0) = false := by simpa using h6
                iterate 5
                  refine wpQuiet_val (v := ?_) (by rfl) ?_ ?_
                  rotate_left
                  · ((intro W hW; (try cases hW); go_simp); try with_reducible rfl)
                  (try simp only [Act.put, List.setIfInBounds_toArray, List.set_cons_zero, List.set_cons_succ])
                by_cases h7 : 1 < p.side
                · have d7 : decide (1 < p.side) = true := by simpa using h7
                  have HF := Lib.hid (show RR = false by rw [← HRR.out, show upToB p.side 1 = false by unfold upToB; rw [Bool.eq_false_iff]; simp; omega]; simp)
                  clear h5 h4 h6 h7
                  iterate 4
                    refine wpQuiet_val (v := ?_) (by rfl) ?_ ?_
                    rotate_left
                    · ((intro W hW; (try cases hW); go_simp); try with_reducible rfl)
                    (try simp only [Act.put, List.setIfInBounds_toArray, List.set_cons_zero, List.set_cons_succ])
                  refine wpQuiet_nil (fun W hW => ?_)
                  have HBN := Lib.hid (HA.out.trans (hW.b.mono hs0))
                  clear hW
                  go_wp2
                  go_ret
                  exact ⟨by rw [HF.out]; rfl, HBN.out⟩
                · have d7 : decide (1 < p.side) = false := by simpa using h7
                  have HS7 := Lib.hid (show upToB p.side 1 = true by unfold upToB; simp; omega)
                  have HRA := Lib.hid (show RR = allIn p.cells (2 * ks.length) by rw [← HRR.out, H1.out, HHH0.out, HHH1.out, HS7.out, show upToB p.rights ((2 : Int) ^ 0 - 1) = true by unfold upToB; simp; omega]; simp)
                  clear h5 h4 h6 h7
                  iterate 4
                    refine wpQuiet_val (v := ?_) (by rfl) ?_ ?_
                    rotate_left
                    · ((intro W hW; (try cases hW); go_simp); try with_reducible rfl)
                    (try simp only [Act.put, List.setIfInBounds_toArray, List.set_cons_zero, List.set_cons_succ])
                  refine wpQuiet_nil (fun W hW => ?_)
                  have hbW := Lib.hid hW.b
                  clear hW
                  go_wp2_with fail
                  go_loopw [5] (fun i wr => ∃ k : Nat, k ≤ p.cells.length ∧ i = .int .i64 k ∧ Hid (∀ j, j < k → upToB (p.cells[j]?.getD 0) (2 * ks.length) = true) ∧ Hid (Below w0.heap.size w0 wr)) (fun i _ => p.cells.length - (RowKit.intOf i).toNat)
                  case atStart => exact ⟨0, Nat.zero_le _, rfl, Lib.hid (fun j hj => absurd hj (Nat.not_lt_zero _)), hbW⟩
                  case round =>
                    clear hbW
                    obtain ⟨k, hk, rfl, hall, hb⟩ := hrel
                    generalize wr = w5 at *
                    have p0 := bx_cell ((hb.out.block _ hxl).trans HX.out) 0 rfl
                    have g3 := bx_cell ((hb.out.block _ hgl).trans HG.out) 3 rfl
                    by_cases hlt : k < p.cells.length
                    · have t1 : decide (k < p.cells.length) = true := by simpa using hlt
                      have t1' : decide ((k : Int) < (p.cells.length : Int)) = true := by simpa using hlt
                      have t3 : (0 : Int) ≤ (k : Int) := by omega
                      have t4 : (k : Int) < (p.cells.length : Int) := by omega
                      obtain ⟨bb, off, hbe, _, hc⟩ := ((HP0.out.up (Nat.le_trans hN hs0) hb.out).cells).at_ hlt
                      subst hbe
                      have HNO := Lib.hid (fun (hn : upToB (p.cells[k]?.getD 0) (2 * ks.length) = false) => show RR = false by
                        rw [HRA.out]
                        unfold allIn
                        rw [List.all_eq_false]
                        exact ⟨p.cells[k], List.getElem_mem _, by rw [List.getElem?_eq_getElem hlt, Option.getD_some] at hn; rw [hn]; simp⟩)
                      have hcell : p.cells[k]?.getD 0 = p.cells[k]?.getD 0 := rfl
                      obtain ⟨x, hx⟩ : ∃ x, p.cells[k]?.getD 0 = x := ⟨_, rfl⟩
                      rw [hx] at hc HNO
                      have HXE := Lib.hid hx
                      clear hx hcell
                      have w1 : IntKind.i64.wrap (2 * (ks.length : Int)) = 2 * (ks.length : Int) := IntWalk.i64_in _ (by omega)
                      have hi5 : IntKind.i64.wrap ((k : Int) + 1) = (k : Int) + 1 := IntWalk.i64_in _ (by omega)
                      by_cases hx1 : x < 0
                      · have e1 : decide (x < 0) = true := by simpa using hx1
                        have HF := Lib.hid (HNO.out (by unfold upToB; rw [Bool.eq_false_iff]; simp; omega))
                        have HBE := Lib.hid (fun n => HA.out.trans ((below_drewN_ hb.out n).mono hs0))
                        clear hx1
                        go_wp2_with fail
                        go_quiet (fail)
                        go_wp2
                        go_ret
                        exact ⟨by rw [HF.out]; rfl, HBE.out _⟩
                      · have e1 : decide (x < 0) = false := by simpa using hx1
                        by_cases hx2 : 2 * (ks.length : Int) < x
                        · have e2 : decide (2 * (ks.length : Int) < x) = true := by simpa using hx2
                          have HF := Lib.hid (HNO.out (by unfold upToB; rw [Bool.eq_false_iff]; simp; omega))
                          have HBE := Lib.hid (fun n => HA.out.trans ((below_drewN_ hb.out n).mono hs0))
                          clear hx1 hx2
                          go_wp2_with fail
                          go_quiet (fail)
                          go_wp2
                          go_ret
                          exact ⟨by rw [HF.out]; rfl, HBE.out _⟩
                        · have e2 : decide (2 * (ks.length : Int) < x) = false := by simpa using hx2
                          have HA2 := Lib.hid (show ∀ j, j < k + 1 → upToB (p.cells[j]?.getD 0) (2 * ks.length) = true from fun j hj => by
                            by_cases e : j = k
                            · subst e; rw [HXE.out]; unfold upToB; simp; omega
                            · exact hall.out j (by omega))
                          have HBD := Lib.hid (fun n => below_drewN_ hb.out n)
                          clear hx1 hx2 hall
                          go_wp2_with fail
                          go_quiet (fail)
                          go_wp2
                          go_roundw
                          case rel => exact ⟨k + 1, by omega, by go_num, HA2, Lib.hid (HBD.out _)⟩
                          case measure => simp [RowKit.intOf]; omega
                    · obtain rfl : k = p.cells.length := by omega
                      have t1 : decide (p.cells.length < p.cells.length) = false := by simp
                      have t1' : decide ((p.cells.length : Int) < (p.cells.length : Int)) = false := by simp
                      have HF := Lib.hid (show RR = true by
                        rw [HRA.out]
                        unfold allIn
                        rw [List.all_eq_true]
                        intro x hx
                        obtain ⟨j, hj, rfl⟩ := List.mem_iff_getElem.1 hx
                        have := hall.out j hj
                        rwa [List.getElem?_eq_getElem hj, Option.getD_some] at this)
                      have HBE := Lib.hid (HA.out.trans (hb.out.mono hs0))
                      clear hall hb
                      go_wp2
                      go_ret
                      exact ⟨by rw [HF.out]; rfl, HBE.out⟩
          · skip
            have wM : IntKind.i64.wrap 2 = 2 := rfl
            by_cases h5 : 2 ≤ p.rights
            · have d5 : decide (2 ≤ p.rights) = true := by simpa using h5
              have HF := Lib.hid (show RR = false by rw [← HRR.out, show upToB p.rights ((2 : Int) ^ 1 - 1) = false by unfold upToB; rw [Bool.eq_false_iff]; simp; omega]; simp)
              clear h5 h4
              iterate 8
                refine wpQuiet_val (v := ?_) (by rfl) ?_ ?_
                rotate_left
                · ((intro W hW; (try cases hW); go_simp); try with_reducible rfl)
                (try simp only [Act.put, List.setIfInBounds_toArray, List.set_cons_zero, List.set_cons_succ])
              iterate 3
                refine wpQuiet_off (by rfl) ?_
                (try simp only [Act.put, List.setIfInBounds_toArray, List.set_cons_zero, List.set_cons_succ])
              iterate 2
                refine wpQuiet_val (v := ?_) (by rfl) ?_ ?_
                rotate_left
                · ((intro W hW; (try cases hW); go_simp); try with_reducible rfl)
                (try simp only [Act.put, List.setIfInBounds_toArray, List.set_cons_zero, List.set_cons_succ])
              iterate 3
                refine wpQuiet_off (by rfl) ?_
                (try simp only [Act.put, List.setIfInBounds_toArray, List.set_cons_zero, List.set_cons_succ])
              refine wpQuiet_val (v := ?_) (by rfl) ?_ ?_
              rotate_left
              · ((intro W hW; (try cases hW); go_simp); try with_reducible rfl)
              (try simp only [Act.put, List.setIfInBounds_toArray, List.set_cons_zero, List.set_cons_succ])
              refine wpQuiet_nil (fun W hW => ?_)
              have HBN := Lib.hid (HA.out.trans (hW.b.mono hs0))
              clear hW
              go_wp2
              go_ret
              exact ⟨by rw [HF.out]; rfl, HBN.out⟩
            · have d5 : decide (2 ≤ p.rights) = false := by simpa using h5
              iterate 8
                refine wpQuiet_val (v := ?_) (by rfl) ?_ ?_
                rotate_left
                · ((intro W hW; (try cases hW); go_simp); try with_reducible rfl)
                (try simp only [Act.put, List.setIfInBounds_toArray, List.set_cons_zero, List.set_cons_succ])
              by_cases h6 : p.side < 0
              · have d6 : decide (p.side < 0) = true := by simpa using h6
                have HF := Lib.hid (show RR = false by rw [← HRR.out, show upToB p.side 1 = false by unfold upToB; rw [Bool.eq_false_iff]; simp; omega]; simp)
                clear h5 h4 h6
                iterate 5
                  refine wpQuiet_val (v := ?_) (by rfl) ?_ ?_
                  rotate_left
                  · ((intro W hW; (try cases hW); go_simp); try with_reducible rfl)
                  (try simp only [Act.put, List.setIfInBounds_toArray, List.set_cons_zero, List.set_cons_succ])
                iterate 3
                  refine wpQuiet_off (by rfl) ?_
                  (try simp only [Act.put, List.setIfInBounds_toArray, List.set_cons_zero, List.set_cons_succ])
                refine wpQuiet_val (v := ?_) (by rfl) ?_ ?_
                rotate_left
                · ((intro W hW; (try cases hW); go_simp); try with_reducible rfl)
                (try simp only [Act.put, List.setIfInBounds_toArray, List.set_cons_zero, List.set_cons_succ])
                refine wpQuiet_nil (fun W hW => ?_)
                have HBN := Lib.hid (HA.out.trans (hW.b.mono hs0))
                clear hW
                go_wp2
                go_ret
                exact ⟨by rw [HF.out]; rfl, HBN.out⟩
              · have d6 : decide (p.side < 0) = false := by simpa using h6
                iterate 5
                  refine wpQuiet_val (v := ?_) (by rfl) ?_ ?_
                  rotate_left
                  · ((intro W hW; (try cases hW); go_simp); try with_reducible rfl)
                  (try simp only [Act.put, List.setIfInBounds_toArray, List.set_cons_zero, List.set_cons_succ])
                by_cases h7 : 1 < p.side
                · have d7 : decide (1 < p.side) = true := by simpa using h7
                  have HF := Lib.hid (show RR = false by rw [← HRR.out, show upToB p.side 1 = false by unfold upToB; rw [Bool.eq_false_iff]; simp; omega]; simp)
                  clear h5 h4 h6 h7
                  iterate 4
                    refine wpQuiet_val (v := ?_) (by rfl) ?_ ?_
                    rotate_left
                    · ((intro W hW; (try cases hW); go_simp); try with_reducible rfl)
                    (try simp only [Act.put, List.setIfInBounds_toArray, List.set_cons_zero, List.set_cons_succ])
                  refine wpQuiet_nil (fun W hW => ?_)
                  have HBN := Lib.hid (HA.out.trans (hW.b.mono hs0))
                  clear hW
                  go_wp2
                  go_ret
                  exact ⟨by rw [HF.out]; rfl, HBN.out⟩
                · have d7 : decide (1 < p.side) = false := by simpa using h7
                  have HS7 := Lib.hid (show upToB p.side 1 = true by unfold upToB; simp; omega)
                  have HRA := Lib.hid (show RR = allIn p.cells (2 * ks.length) by rw [← HRR.out, H1.out, HHH0.out, HHH1.out, HS7.out, show upToB p.rights ((2 : Int) ^ 1 - 1) = true by unfold upToB; simp; omega]; simp)
                  clear h5 h4 h6 h7
                  iterate 4
                    refine wpQuiet_val (v := ?_) (by rfl) ?_ ?_
                    rotate_left
                    · ((intro W hW; (try cases hW); go_simp); try with_reducible rfl)
                    (try simp only [Act.put, List.setIfInBounds_toArray, List.set_cons_zero, List.set_cons_succ])
                  refine wpQuiet_nil (fun W hW => ?_)
                  have hbW := Lib.hid hW.b
                  clear hW
                  go_wp2_with fail
                  go_loopw [5] (fun i wr => ∃ k : Nat, k ≤ p.cells.length ∧ i = .int .i64 k ∧ Hid (∀ j, j < k → upToB (p.cells[j]?.getD 0) (2 * ks.length) = true) ∧ Hid (Below w0.heap.size w0 wr)) (fun i _ => p.cells.length - (RowKit.intOf i).toNat)
                  case atStart => exact ⟨0, Nat.zero_le _, rfl, Lib.hid (fun j hj => absurd hj (Nat.not_lt_zero _)), hbW⟩
                  case round =>
                    clear hbW
                    obtain ⟨k, hk, rfl, hall, hb⟩ := hrel
                    generalize wr = w5 at *
                    have p0 := bx_cell ((hb.out.block _ hxl).trans HX.out) 0 rfl
                    have g3 := bx_cell ((hb.out.block _ hgl).trans HG.out) 3 rfl
                    by_cases hlt : k < p.cells.length
                    · have t1 : decide (k < p.cells.length) = true := by simpa using hlt
                      have t1' : decide ((k : Int) < (p.cells.length : Int)) = true := by simpa using hlt
                      have t3 : (0 : Int) ≤ (k : Int) := by omega
                      have t4 : (k : Int) < (p.cells.length : Int) := by omega
                      obtain ⟨bb, off, hbe, _, hc⟩ := ((HP0.out.up (Nat.le_trans hN hs0) hb.out).cells).at_ hlt
                      subst hbe
                      have HNO := Lib.hid (fun (hn : upToB (p.cells[k]?.getD 0) (2 * ks.length) = false) => show RR = false by
                        rw [HRA.out]
                        unfold allIn
                        rw [List.all_eq_false]
                        exact ⟨p.cells[k], List.getElem_mem _, by rw [List.getElem?_eq_getElem hlt, Option.getD_some] at hn; rw [hn]; simp⟩)
                      have hcell : p.cells[k]?.getD 0 = p.cells[k]?.getD 0 := rfl
                      obtain ⟨x, hx⟩ : ∃ x, p.cells[k]?.getD 0 = x := ⟨_, rfl⟩
                      rw [hx] at hc HNO
                      have HXE := Lib.hid hx
                      clear hx hcell
                      have w1 : IntKind.i64.wrap (2 * (ks.length : Int)) = 2 * (ks.length : Int) := IntWalk.i64_in _ (by omega)
                      have hi5 : IntKind.i64.wrap ((k : Int) + 1) = (k : Int) + 1 := IntWalk.i64_in _ (by omega)
                      by_cases hx1 : x < 0
                      · have e1 : decide (x < 0) = true := by simpa using hx1
                        have HF := Lib.hid (HNO.out (by unfold upToB; rw [Bool.eq_false_iff]; simp; omega))
                        have HBE := Lib.hid (fun n => HA.out.trans ((below_drewN_ hb.out n).mono hs0))
                        clear hx1
                        go_wp2_with fail
                        go_quiet (fail)
                        go_wp2
                        go_ret
                        exact ⟨by rw [HF.out]; rfl, HBE.out _⟩
                      · have e1 : decide (x < 0) = false := by simpa using hx1
                        by_cases hx2 : 2 * (ks.length : Int) < x
                        · have e2 : decide (2 * (ks.length : Int) < x) = true := by simpa using hx2
                          have HF := Lib.hid (HNO.out (by unfold upToB; rw [Bool.eq_false_iff]; simp; omega))
                          have HBE := Lib.hid (fun n => HA.out.trans ((below_drewN_ hb.out n).mono hs0))
                          clear hx1 hx2
                          go_wp2_with fail
                          go_quiet (fail)
                          go_wp2
                          go_ret
                          exact ⟨by rw [HF.out]; rfl, HBE.out _⟩
                        · have e2 : decide (2 * (ks.length : Int) < x) = false := by simpa using hx2
                          have HA2 := Lib.hid (show ∀ j, j < k + 1 → upToB (p.cells[j]?.getD 0) (2 * ks.length) = true from fun j hj => by
                            by_cases e : j = k
                            · subst e; rw [HXE.out]; unfold upToB; simp; omega
                            · exact hall.out j (by omega))
                          have HBD := Lib.hid (fun n => below_drewN_ hb.out n)
                          clear hx1 hx2 hall
                          go_wp2_with fail
                          go_quiet (fail)
                          go_wp2
                          go_roundw
                          case rel => exact ⟨k + 1, by omega, by go_num, HA2, Lib.hid (HBD.out _)⟩
                          case measure => simp [RowKit.intOf]; omega
                    · obtain rfl : k = p.cells.length := by omega
                      have t1 : decide (p.cells.length < p.cells.length) = false := by simp
                      have t1' : decide ((p.cells.length : Int) < (p.cells.length : Int)) = false := by simp
                      have HF := Lib.hid (show RR = true by
                        rw [HRA.out]
                        unfold allIn
                        rw [List.all_eq_true]
                        intro x hx
                        obtain ⟨j, hj, rfl⟩ := List.mem_iff_getElem.1 hx
                        have := hall.out j hj
                        rwa [List.getElem?_eq_getElem hj, Option.getD_some] at this)
                      have HBE := Lib.hid (HA.out.trans (hb.out.mono hs0))
                      clear hall hb
                      go_wp2
                      go_ret
                      exact ⟨by rw [HF.out]; rfl, HBE.out⟩
          · skip
            have wM : IntKind.i64.wrap 4 = 4 := rfl
            by_cases h5 : 4 ≤ p.rights
            · have d5 : decide (4 ≤ p.rights) = true := by simpa using h5
              have HF := Lib.hid (show RR = false by rw [← HRR.out, show upToB p.rights ((2 : Int) ^ 2 - 1) = false by unfold upToB; rw [Bool.eq_false_iff]; simp; omega]; simp)
              clear h5 h4
              iterate 8
                refine wpQuiet_val (v := ?_) (by rfl) ?_ ?_
                rotate_left
                · ((intro W hW; (try cases hW); go_simp); try with_reducible rfl)
                (try simp only [Act.put, List.setIfInBounds_toArray, List.set_cons_zero, List.set_cons_succ])
              iterate 3
                refine wpQuiet_off (by rfl) ?_
                (try simp only [Act.put, List.setIfInBounds_toArray, List.set_cons_zero, List.set_cons_succ])
              iterate 2
                refine wpQuiet_val (v := ?_) (by rfl) ?_ ?_
                rotate_left
                · ((intro W hW; (try cases hW); go_simp); try with_reducible rfl)
                (try simp only [Act.put, List.setIfInBounds_toArray, List.set_cons_zero, List.set_cons_succ])
              iterate 3
                refine wpQuiet_off (by rfl) ?_
                (try simp only [Act.put, List.setIfInBounds_toArray, List.set_cons_zero, List.set_cons_succ])
              refine wpQuiet_val (v := ?_) (by rfl) ?_ ?_
              rotate_left
              · ((intro W hW; (try cases hW); go_simp); try with_reducible rfl)
              (try simp only [Act.put, List.setIfInBounds_toArray, List.set_cons_zero, List.set_cons_succ])
              refine wpQuiet_nil (fun W hW => ?_)
              have HBN := Lib.hid (HA.out.trans (hW.b.mono hs0))
              clear hW
              go_wp2
              go_ret
              exact ⟨by rw [HF.out]; rfl, HBN.out⟩
            · have d5 : decide (4 ≤ p.rights) = false := by simpa using h5
              iterate 8
                refine wpQuiet_val (v := ?_) (by rfl) ?_ ?_
                rotate_left
                · ((intro W hW; (try cases hW); go_simp); try with_reducible rfl)
                (try simp only [Act.put, List.setIfInBounds_toArray, List.set_cons_zero, List.set_cons_succ])
              by_cases h6 : p.side < 0
              · have d6 : decide (p.side < 0) = true := by simpa using h6
                have HF := Lib.hid (show RR = false by rw [← HRR.out, show upToB p.side 1 = false by unfold upToB; rw [Bool.eq_false_iff]; simp; omega]; simp)
                clear h5 h4 h6
                iterate 5
                  refine wpQuiet_val (v := ?_) (by rfl) ?_ ?_
                  rotate_left
                  · ((intro W hW; (try cases hW); go_simp); try with_reducible rfl)
                  (try simp only [Act.put, List.setIfInBounds_toArray, List.set_cons_zero, List.set_cons_succ])
                iterate 3
                  refine wpQuiet_off (by rfl) ?_
                  (try simp only [Act.put, List.setIfInBounds_toArray, List.set_cons_zero, List.set_cons_succ])
                refine wpQuiet_val (v := ?_) (by rfl) ?_ ?_
                rotate_left
                · ((intro W hW; (try cases hW); go_simp); try with_reducible rfl)
                (try simp only [Act.put, List.setIfInBounds_toArray, List.set_cons_zero, List.set_cons_succ])
                refine wpQuiet_nil (fun W hW => ?_)
                have HBN := Lib.hid (HA.out.trans (hW.b.mono hs0))
                clear hW
                go_wp2
                go_ret
                exact ⟨by rw [HF.out]; rfl, HBN.out⟩
              · have d6 : decide (p.side < 0) = false := by simpa using h6
                iterate 5
                  refine wpQuiet_val (v := ?_) (by rfl) ?_ ?_
                  rotate_left
                  · ((intro W hW; (try cases hW); go_simp); try with_reducible rfl)
                  (try simp only [Act.put, List.setIfInBounds_toArray, List.set_cons_zero, List.set_cons_succ])
                by_cases h7 : 1 < p.side
                · have d7 : decide (1 < p.side) = true := by simpa using h7
                  have HF := Lib.hid (show RR = false by rw [← HRR.out, show upToB p.side 1 = false by unfold upToB; rw [Bool.eq_false_iff]; simp; omega]; simp)
                  clear h5 h4 h6 h7
                  iterate 4
                    refine wpQuiet_val (v := ?_) (by rfl) ?_ ?_
                    rotate_left
                    · ((intro W hW; (try cases hW); go_simp); try with_reducible rfl)
                    (try simp only [Act.put, List.setIfInBounds_toArray, List.set_cons_zero, List.set_cons_succ])
                  refine wpQuiet_nil (fun W hW => ?_)
                  have HBN := Lib.hid (HA.out.trans (hW.b.mono hs0))
                  clear hW
                  go_wp2
                  go_ret
                  exact ⟨by rw [HF.out]; rfl, HBN.out⟩
                · have d7 : decide (1 < p.side) = false := by simpa using h7
                  have HS7 := Lib.hid (show upToB p.side 1 = true by unfold upToB; simp; omega)
                  have HRA := Lib.hid (show RR = allIn p.cells (2 * ks.length) by rw [← HRR.out, H1.out, HHH0.out, HHH1.out, HS7.out, show upToB p.rights ((2 : Int) ^ 2 - 1) = true by unfold upToB; simp; omega]; simp)
                  clear h5 h4 h6 h7
                  iterate 4
                    refine wpQuiet_val (v := ?_) (by rfl) ?_ ?_
                    rotate_left
                    · ((intro W hW; (try cases hW); go_simp); try with_reducible rfl)
                    (try simp only [Act.put, List.setIfInBounds_toArray, List.set_cons_zero, List.set_cons_succ])
                  refine wpQuiet_nil (fun W hW => ?_)
                  have hbW := Lib.hid hW.b
                  clear hW
                  go_wp2_with fail
                  go_loopw [5] (fun i wr => ∃ k : Nat, k ≤ p.cells.length ∧ i = .int .i64 k ∧ Hid (∀ j, j < k → upToB (p.cells[j]?.getD 0) (2 * ks.length) = true) ∧ Hid (Below w0.heap.size w0 wr)) (fun i _ => p.cells.length - (RowKit.intOf i).toNat)
                  case atStart => exact ⟨0, Nat.zero_le _, rfl, Lib.hid (fun j hj => absurd hj (Nat.not_lt_zero _)), hbW⟩
                  case round =>
                    clear hbW
                    obtain ⟨k, hk, rfl, hall, hb⟩ := hrel
                    generalize wr = w5 at *
                    have p0 := bx_cell ((hb.out.block _ hxl).trans HX.out) 0 rfl
                    have g3 := bx_cell ((hb.out.block _ hgl).trans HG.out) 3 rfl
                    by_cases hlt : k < p.cells.length
                    · have t1 : decide (k < p.cells.length) = true := by simpa using hlt
                      have t1' : decide ((k : Int) < (p.cells.length : Int)) = true := by simpa using hlt
                      have t3 : (0 : Int) ≤ (k : Int) := by omega
                      have t4 : (k : Int) < (p.cells.length : Int) := by omega
                      obtain ⟨bb, off, hbe, _, hc⟩ := ((HP0.out.up (Nat.le_trans hN hs0) hb.out).cells).at_ hlt
                      subst hbe
                      have HNO := Lib.hid (fun (hn : upToB (p.cells[k]?.getD 0) (2 * ks.length) = false) => show RR = false by
                        rw [HRA.out]
                        unfold allIn
                        rw [List.all_eq_false]
                        exact ⟨p.cells[k], List.getElem_mem _, by rw [List.getElem?_eq_getElem hlt, Option.getD_some] at hn; rw [hn]; simp⟩)
                      have hcell : p.cells[k]?.getD 0 = p.cells[k]?.getD 0 := rfl
                      obtain ⟨x, hx⟩ : ∃ x, p.cells[k]?.getD 0 = x := ⟨_, rfl⟩
                      rw [hx] at hc HNO
                      have HXE := Lib.hid hx
                      clear hx hcell
                      have w1 : IntKind.i64.wrap (2 * (ks.length : Int)) = 2 * (ks.length : Int) := IntWalk.i64_in _ (by omega)
                      have hi5 : IntKind.i64.wrap ((k : Int) + 1) = (k : Int) + 1 := IntWalk.i64_in _ (by omega)
                      by_cases hx1 : x < 0
                      · have e1 : decide (x < 0) = true := by simpa using hx1
                        have HF := Lib.hid (HNO.out (by unfold upToB; rw [Bool.eq_false_iff]; simp; omega))
                        have HBE := Lib.hid (fun n => HA.out.trans ((below_drewN_ hb.out n).mono hs0))
                        clear hx1
                        go_wp2_with fail
                        go_quiet (fail)
                        go_wp2
                        go_ret
                        exact ⟨by rw [HF.out]; rfl, HBE.out _⟩
                      · have e1 : decide (x < 0) = false := by simpa using hx1
                        by_cases hx2 : 2 * (ks.length : Int) < x
                        · have e2 : decide (2 * (ks.length : Int) < x) = true := by simpa using hx2
                          have HF := Lib.hid (HNO.out (by unfold upToB; rw [Bool.eq_false_iff]; simp; omega))
                          have HBE := Lib.hid (fun n => HA.out.trans ((below_drewN_ hb.out n).mono hs0))
                          clear hx1 hx2
                          go_wp2_with fail
                          go_quiet (fail)
                          go_wp2
                          go_ret
                          exact ⟨by rw [HF.out]; rfl, HBE.out _⟩
                        · have e2 : decide (2 * (ks.length : Int) < x) = false := by simpa using hx2
                          have HA2 := Lib.hid (show ∀ j, j < k + 1 → upToB (p.cells[j]?.getD 0) (2 * ks.length) = true from fun j hj => by
                            by_cases e : j = k
                            · subst e; rw [HXE.out]; unfold upToB; simp; omega
                            · exact hall.out j (by omega))
                          have HBD := Lib.hid (fun n => below_drewN_ hb.out n)
                          clear hx1 hx2 hall
                          go_wp2_with fail
                          go_quiet (fail)
                          go_wp2
                          go_roundw
                          case rel => exact ⟨k + 1, by omega, by go_num, HA2, Lib.hid (HBD.out _)⟩
                          case measure => simp [RowKit.intOf]; omega
                    · obtain rfl : k = p.cells.length := by omega
                      have t1 : decide (p.cells.length < p.cells.length) = false := by simp
                      have t1' : decide ((p.cells.length : Int) < (p.cells.length : Int)) = false := by simp
                      have HF := Lib.hid (show RR = true by
                        rw [HRA.out]
                        unfold allIn
                        rw [List.all_eq_true]
                        intro x hx
                        obtain ⟨j, hj, rfl⟩ := List.mem_iff_getElem.1 hx
                        have := hall.out j hj
                        rwa [List.getElem?_eq_getElem hj, Option.getD_some] at this)
                      have HBE := Lib.hid (HA.out.trans (hb.out.mono hs0))
                      clear hall hb
                      go_wp2
                      go_ret
                      exact ⟨by rw [HF.out]; rfl, HBE.out⟩
  · skip
    have hne : ((p.cells.length : Int) != (bc : Int)) = true := by simp; omega
    have HF := Lib.hid (show RR = false by rw [← HRR.out, decide_eq_false h1]; rfl)
    clear h1
    iterate 8
      refine wpQuiet_val (v := ?_) (by rfl) ?_ ?_
      rotate_left
      · ((intro W hW; (try cases hW); go_simp); try with_reducible rfl)
      (try simp only [Act.put, List.setIfInBounds_toArray, List.set_cons_zero, List.set_cons_succ])
    iterate 6
      refine wpQuiet_off (by rfl) ?_
      (try simp only [Act.put, List.setIfInBounds_toArray, List.set_cons_zero, List.set_cons_succ])
    iterate 2
      refine wpQuiet_val (v := ?_) (by rfl) ?_ ?_
      rotate_left
      · ((intro W hW; (try cases hW); go_simp); try with_reducible rfl)
      (try simp only [Act.put, List.setIfInBounds_toArray, List.set_cons_zero, List.set_cons_succ])
    iterate 6
      refine wpQuiet_off (by rfl) ?_
      (try simp only [Act.put, List.setIfInBounds_toArray, List.set_cons_zero, List.set_cons_succ])
    iterate 2
      refine wpQuiet_val (v := ?_) (by rfl) ?_ ?_
      rotate_left
      · ((intro W hW; (try cases hW); go_simp); try with_reducible rfl)
      (try simp only [Act.put, List.setIfInBounds_toArray, List.set_cons_zero, List.set_cons_succ])
    iterate 3
      refine wpQuiet_off (by rfl) ?_
      (try simp only [Act.put, List.setIfInBounds_toArray, List.set_cons_zero, List.set_cons_succ])
    iterate 2
      refine wpQuiet_val (v := ?_) (by rfl) ?_ ?_
      rotate_left
      · ((intro W hW; (try cases hW); go_simp); try with_reducible rfl)
      (try simp only [Act.put, List.setIfInBounds_toArray, List.set_cons_zero, List.set_cons_succ])
    iterate 6
      refine wpQuiet_off (by rfl) ?_
      (try simp only [Act.put, List.setIfInBounds_toArray, List.set_cons_zero, List.set_cons_succ])
    iterate 2
      refine wpQuiet_val (v := ?_) (by rfl) ?_ ?_
      rotate_left
      · ((intro W hW; (try cases hW); go_simp); try with_reducible rfl)
      (try simp only [Act.put, List.setIfInBounds_toArray, List.set_cons_zero, List.set_cons_succ])
    iterate 3
      refine wpQuiet_off (by rfl) ?_
      (try simp only [Act.put, List.setIfInBounds_toArray, List.set_cons_zero, List.set_cons_succ])
    iterate 2
      refine wpQuiet_val (v := ?_) (by rfl) ?_ ?_
      rotate_left
      · ((intro W hW; (try cases hW); go_simp); try with_reducible rfl)
      (try simp only [Act.put, List.setIfInBounds_toArray, List.set_cons_zero, List.set_cons_succ])
    iterate 3
      refine wpQuiet_off (by rfl) ?_
      (try simp only [Act.put, List.setIfInBounds_toArray, List.set_cons_zero, List.set_cons_succ])
    refine wpQuiet_val (v := ?_) (by rfl) ?_ ?_
    rotate_left
    · ((intro W hW; (try cases hW); go_simp); try with_reducible rfl)
    (try simp only [Act.put, List.setIfInBounds_toArray, List.set_cons_zero, List.set_cons_succ])
    refine wpQuiet_nil (fun W hW => ?_)
    have HBN := Lib.hid (HA.out.trans (hW.b.mono hs0))
    clear hW
    go_wp2
    go_ret
    exact ⟨by rw [HF.out]; rfl, HBN.out⟩
end Go.Proofs.Ytepbmgbomdekaaa
