/-
  A copy of a position by appends to list literals (the reference of stage 5).
-/
import Derived.Test.YtepbmgbomdekaaaXBd
import Derived.Test.YtepbmgbomdekaaaTkT
namespace Go.Proofs.Ytepbmgbomdekaaa
open Go Go.RowKit

/-- A whole list is appended to one of the call's own. -/
theorem step_append_all {w : World} {ops : Array Oper} {o : Oper} {a : Act} {K : Act → World → Prop} {Q : Exit → Act → World → Prop} {E : Prop} (hgd : o.guard = none) (s y : Operand)
    (ho : o.op = .call { callee := .builtin .append, args := #[s, y], argTypes := #[24, 24] }) (n : Nat) (v : Value) (l : List Int) (hs : a.eval s = v) (h : OwnInts n w v l) (hl : l.length < 2000) (hn : n ≤ w.heap.size)
    (b off c : Nat) (l2 : List Int) (hy : a.eval y = .slice (some ⟨b, off, none⟩) l2.length c) (hl2 : l2.length < 2000) (hx : ∀ j, j < l2.length → w.cell? ⟨b, off + j, none⟩ = some (.int .i64 (l2[j]?.getD 0)))
    (hK : ∀ v' w', OwnInts n w' v' (l ++ l2) → w.grownBy w' v.ownBlock → (v'.ownBlock = v.ownBlock ∨ v'.ownBlock = some w.heap.size) → K (a.put o.dst v') w') :
    if Region.wanted o (yielded ops a.tmps) = true then Oper.wp Try.prog o a w K Q else E := by
  have hw : Region.wanted o (yielded ops a.tmps) = true := by simp [Region.wanted, hgd]
  rw [if_pos hw]
  obtain ⟨i0, hi, hz0, hz1, hz2⟩ := info_parts (show (Try.prog.info? 3).map (fun i => (i.zero, i.size, i.bytes)) = some (some (.int .i64 0), 1, 8) by kernel_rfl)
  obtain ⟨v', w', hr, h2, h3, _, h5⟩ := run_append_own_at (P := Try.prog) w n 24 o.type 3 i0 (.int .i64 0) 1 8 Try.underlying24 hi hz0 hz1 hz2 rfl (by decide) v l.length (l.map (Value.int .i64)) h ⟨b, off, none⟩ l2.length c (l2.map (Value.int .i64)) (by simp)
    (by intro j u hj
        have hjl : j < l2.length := by have := (List.getElem?_eq_some_iff.1 hj).1; simpa using this
        have e : (⟨b, off, none⟩ : Addr).add j = ⟨b, off + j, none⟩ := by by_cases h : j = 0 <;> simp [Addr.add, h]
        rw [e, hx j hjl, ← hj]
        simp [hjl]) (by simp [Value.oneCell']) (by unfold maxLen; omega) (by omega) hn
  unfold Oper.wp
  simp [execOp, ho, resolve, invoke, builtin, hs, hy, hr, Result.andThen]
  refine hK v' w' ⟨by simp, ?_⟩ h3 h5
  have := h2.2
  simpa using this
theorem wpList_append_all {w : World} {ops : Array Oper} {rest : List Oper} {o : Oper} {a : Act} {Q : Exit → Act → World → Prop} (hgd : o.guard = none) (s y : Operand)
    (ho : o.op = .call { callee := .builtin .append, args := #[s, y], argTypes := #[24, 24] }) (n : Nat) (v : Value) (l : List Int) (hs : a.eval s = v) (h : OwnInts n w v l) (hl : l.length < 2000) (hn : n ≤ w.heap.size)
    (b off c : Nat) (l2 : List Int) (hy : a.eval y = .slice (some ⟨b, off, none⟩) l2.length c) (hl2 : l2.length < 2000) (hx : ∀ j, j < l2.length → w.cell? ⟨b, off + j, none⟩ = some (.int .i64 (l2[j]?.getD 0)))
    (hK : ∀ v' w', OwnInts n w' v' (l ++ l2) → w.grownBy w' v.ownBlock → (v'.ownBlock = v.ownBlock ∨ v'.ownBlock = some w.heap.size) → wpList Try.prog ops Q rest (a.put o.dst v') w') :
    wpList Try.prog ops Q (o :: rest) a w :=
  wpList_plain hgd fun K hK' => by
    have h2 := step_append_all (w := w) (ops := ops) (Q := Q) (K := K) (E := True) hgd s y ho n v l hs h hl hn b off c l2 hy hl2 hx (fun v' w' h1 h2 h3 => hK' _ _ (hK v' w' h1 h2 h3))
    rw [if_pos (by simp [Region.wanted, hgd])] at h2
    exact h2
theorem ints_at {N : Nat} {W : World} {a : Option Addr} {l : List Int} (h : Ints N W a l) (h1 : 1 ≤ l.length) : ∃ b off, a = some ⟨b, off, none⟩ ∧ b < N ∧ ∀ j, j < l.length → W.cell? ⟨b, off + j, none⟩ = some (.int .i64 (l[j]?.getD 0)) := by
  rcases h with rfl | ⟨b, off, e, hn, hc⟩
  · simp at h1
  · exact ⟨b, off, e, hn, hc⟩
theorem own_form {n : Nat} {W : World} {v : Value} {l : List Int} (ho : OwnInts n W v l) (h1 : 1 ≤ l.length) : ∃ g ct, v = .slice (some ⟨g, 0, none⟩) l.length ct ∧ n ≤ g ∧ g < W.heap.size := by
  rcases ho.form with ⟨_, h0⟩ | ⟨g, cap, rfl, hg, hl⟩
  · rw [h0] at h1; simp at h1
  · exact ⟨g, cap, rfl, hg, hl⟩
attribute [local go_sem] idx_hand0 idx_hand1
set_option maxRecDepth 100000 in
set_option maxHeartbeats 4000000 in
theorem rcopied_any (p : PosS) (a a0 a1 : Option Addr) (c c0 c1 N : Nat) (w : World) (p1 : 1 ≤ p.cells.length) (p2 : p.cells.length ≤ 1000) (q1 : 1 ≤ p.h0.length) (q2 : p.h0.length ≤ 1000) (r1 : 1 ≤ p.h1.length) (r2 : p.h1.length ≤ 1000) (hN : N ≤ w.heap.size) (hP : PosIn N w a a0 a1 p) :
    Calls Try.prog 40 #[PosV a a0 a1 c c0 c1 p] w fun e w' => ∃ g g0 g1 d d0 d1, e = .returned (PosV (some ⟨g, 0, none⟩) (some ⟨g0, 0, none⟩) (some ⟨g1, 0, none⟩) d d0 d1 p) ∧ POwn w.heap.size w' (some ⟨g, 0, none⟩) (some ⟨g0, 0, none⟩) (some ⟨g1, 0, none⟩) d d0 d1 p ∧ (¬ g = g0 ∧ ¬ g = g1 ∧ ¬ g0 = g1) ∧ Below w.heap.size w w' := by
  unfold PosV
  go_enter Try.func40, Try.ntmps40
  go_upto_region 1 with (fail)
  obtain ⟨hb0, hX, hR, hS⟩ := two_boxes w #[.slice a p.cells.length c, .slice a0 p.h0.length c0, .slice a1 p.h1.length c1, .int .i64 p.rights, .int .i64 p.side] #[.slice none 0 0, .slice none 0 0, .slice none 0 0, .int .i64 0, .int .i64 0] 27 27
  generalize (w.alloc (.cells #[.slice a p.cells.length c, .slice a0 p.h0.length c0, .slice a1 p.h1.length c1, .int .i64 p.rights, .int .i64 p.side] 27)).alloc (.cells #[.slice none 0 0, .slice none 0 0, .slice none 0 0, .int .i64 0, .int .i64 0] 27) = w0 at *
  have hP0 := hP.up hN hb0
  obtain ⟨x, hx⟩ : ∃ x, x = w.heap.size := ⟨_, rfl⟩
  have EX := Lib.hid hx
  simp only [← hx] at hN hb0 hX hR hS ⊢
  have hs9 : x + 2 ≤ w0.heap.size := by omega
  clear hx hP hS
  obtain ⟨b, off, rfl, hbN, hc⟩ := ints_at hP0.cells p1
  have x0 : w0.cell? ⟨x, 0, none⟩ = some (.slice (some ⟨b, off, none⟩) p.cells.length c) := bx_cell hX 0 rfl
  have lx := bx_lt hX
  have f0 := bx_frozen hX 0
  have hbE : Below w0.heap.size w0 (w0.alloc (.cells #[] 3)) := below_alloc (Below.refl _ _) _
  go_upto_region 2 with (refine wpList_append_all rfl _ _ rfl w0.heap.size (.slice (some ⟨w0.heap.size, 0, none⟩) 0 0) [] rfl (own_empty w0) (by simp) hbE.size b off c p.cells rfl (by omega) (fun j hj => (hbE.cell (p := ⟨b, off + j, none⟩) (show b < w0.heap.size by omega)).trans (hc j hj)) ?_; intro v1 w1 ho1 hg1 _; rw [List.nil_append] at ho1; obtain ⟨g, d, rfl, hgl, hgr⟩ := own_form ho1 p1; have hb1 : Below w0.heap.size w0 w1 := push_below hbE (Below.refl _ _) hbE.size (own_empty w0) hg1; have hX1 := hp_up hX hb1; have y0 : w1.cell? ⟨x, 0, none⟩ = some (.slice (some ⟨b, off, none⟩) p.cells.length c) := bx_cell hX1 0 rfl; have f1 := bx_frozen hX1 0; have lx1 := bx_lt hX1; clear hg1)
  have hst := bx_set hX1 0 (.slice (some ⟨g, 0, none⟩) p.cells.length d)
  have hR2 := (hp_far w1 x 0 (.slice (some ⟨g, 0, none⟩) p.cells.length d) (x + 1) (by omega)).trans (hp_up hR hb1)
  have ho2 := own_far (B := x) (j := 0) (u := .slice (some ⟨g, 0, none⟩) p.cells.length d) ho1 (by omega)
  have hb2 : Below x w0 (w1.setCell ⟨x, 0, none⟩ (.slice (some ⟨g, 0, none⟩) p.cells.length d)) := (hb1.mono (by omega)).trans ((alters_cell w1 x 0 _).below (by omega) (fun z hz => by have e : z = x := hz; omega))
  have hbN2 : Below N w0 (w1.setCell ⟨x, 0, none⟩ (.slice (some ⟨g, 0, none⟩) p.cells.length d)) := hb2.mono hN
  have hC2 : (w1.setCell ⟨x, 0, none⟩ (.slice (some ⟨g, 0, none⟩) p.cells.length d)).heap[x]? = some (.cells #[.slice (some ⟨g, 0, none⟩) p.cells.length d, .slice a0 p.h0.length c0, .slice a1 p.h1.length c1, .int .i64 p.rights, .int .i64 p.side] 27 (0, 0)) := hst
  have hgs : g < (w1.setCell ⟨x, 0, none⟩ (.slice (some ⟨g, 0, none⟩) p.cells.length d)).heap.size := by simp [World.setCell]; exact hgr
  have hsw : w0.heap.size ≤ (w1.setCell ⟨x, 0, none⟩ (.slice (some ⟨g, 0, none⟩) p.cells.length d)).heap.size := by simp [World.setCell]; exact hb1.size
  obtain ⟨b0, off0, rfl, hbN0, hc0⟩ := ints_at (hP0.h0.below hbN2) q1
  obtain ⟨b1, off1, rfl, hbN1, hc1⟩ := ints_at (hP0.h1.below hbN2) r1
  have hb02 := hb0.trans hb2
  clear hst hb1 hX1 y0 f1 lx1 ho1 hbE x0 lx f0 hX hR hb0 hb2 hbN2 hP0 hc
  generalize w1.setCell ⟨x, 0, none⟩ (.slice (some ⟨g, 0, none⟩) p.cells.length d) = w2 at *
  have hx2 := bx_lt hC2
  go_cut [] (fun wx => ∃ g0 g1 d0 d1, wx.heap[x]? = some (.cells #[.slice (some ⟨g, 0, none⟩) p.cells.length d, .slice (some ⟨g0, 0, none⟩) p.h0.length d0, .slice (some ⟨g1, 0, none⟩) p.h1.length d1, .int .i64 p.rights, .int .i64 p.side] 27 (0, 0)) ∧ OwnInts w2.heap.size wx (.slice (some ⟨g0, 0, none⟩) p.h0.length d0) p.h0 ∧ OwnInts w2.heap.size wx (.slice (some ⟨g1, 0, none⟩) p.h1.length d1) p.h1 ∧ ¬ g0 = g1 ∧ w2.heap.size ≤ g0 ∧ w2.heap.size ≤ g1 ∧ Alters (fun z => z = x) w2 wx)
  case first =>
    have hd : Below w2.heap.size w2 w2.drew := (Below.refl _ _).drew
    have hCd := hp_up hC2 hd
    have hMe : w2.drew.heap.size = w2.heap.size := rfl
    have HH0 : ∀ W, Below w2.drew.heap.size w2.drew W → ∀ j, j < p.h0.length → W.cell? ⟨b0, off0 + j, none⟩ = some (.int .i64 (p.h0[j]?.getD 0)) := fun W hW j hj => (hW.cell (p := ⟨b0, off0 + j, none⟩) (show b0 < w2.drew.heap.size by omega)).trans (hc0 j hj)
    have HH1 : ∀ W, Below w2.drew.heap.size w2.drew W → ∀ j, j < p.h1.length → W.cell? ⟨b1, off1 + j, none⟩ = some (.int .i64 (p.h1[j]?.getD 0)) := fun W hW j hj => (hW.cell (p := ⟨b1, off1 + j, none⟩) (show b1 < w2.drew.heap.size by omega)).trans (hc1 j hj)
    have hMle : w2.heap.size ≤ w2.drew.heap.size := Nat.le_of_eq hMe.symm
    have hMge : w2.drew.heap.size ≤ w2.heap.size := Nat.le_of_eq hMe
    replace HH0 := Lib.hid HH0
    replace HH1 := Lib.hid HH1
    have HSS := Lib.hid (show ∀ W, Below w2.drew.heap.size w2.drew W → W.cell? ⟨x, 1, none⟩ = some (.slice (some ⟨b0, off0, none⟩) p.h0.length c0) ∧ W.cell? ⟨x, 2, none⟩ = some (.slice (some ⟨b1, off1, none⟩) p.h1.length c1) from fun W hW => ⟨(hW.cell (p := ⟨x, 1, none⟩) (show x < w2.drew.heap.size by omega)).trans (bx_cell hCd 1 rfl), (hW.cell (p := ⟨x, 2, none⟩) (show x < w2.drew.heap.size by omega)).trans (bx_cell hCd 2 rfl)⟩)
    refine wp_region_T (S := fun W => W.cell? ⟨x, 1, none⟩ = some (.slice (some ⟨b0, off0, none⟩) p.h0.length c0) ∧ W.cell? ⟨x, 2, none⟩ = some (.slice (some ⟨b1, off1, none⟩) p.h1.length c1)) 12 (by kernel_rfl) ?_
    have hS : w2.drew.cell? ⟨x, 1, none⟩ = some (.slice (some ⟨b0, off0, none⟩) p.h0.length c0) ∧ w2.drew.cell? ⟨x, 2, none⟩ = some (.slice (some ⟨b1, off1, none⟩) p.h1.length c1) := ⟨bx_cell hCd 1 rfl, bx_cell hCd 2 rfl⟩
    generalize w2.drew = wD at *
    clear hc0 hc1 hR2 ho2 hb02 hbN0 hbN1 hC2
    refine TT 1 ?_
    (try simp only [pS])
    refine TT 2 ?_
    (try simp only [pS])
    refine TT 3 ?_
    (try simp only [pS])
    refine TT 6 ?_
    (try simp only [pS])
    refine TT 7 ?_
    (try simp only [pS])
    refine TT 8 ?_
    (try simp only [pS])
    have bwD : Below wD.heap.size wD wD := Below.refl _ _
    clear hS hMe
    refine wpT_ready (rs := [0, 5]) (by kernel_rfl) (by simp) ?_
    refine AT (i := 0) (fun K hK => ?_) ?_
    · go_simp
      have nwY1 : Below wD.heap.size wD (wD.alloc (.cells #[] 3)) := below_alloc (Below.refl _ _) _
      have e0wY1 : OwnInts wD.heap.size (wD.alloc (.cells #[] 3)) (.slice (some ⟨wD.heap.size, 0, none⟩) 0 0) [] := OwnInts.mono (own_empty wD) bwD.size
      have bwY1 : Below wD.heap.size wD (wD.alloc (.cells #[] 3)) := bwD.trans (nwY1.mono bwD.size)
      have zwY1 : wD.heap.size + 1 ≤ (wD.alloc (.cells #[] 3)).heap.size := by simp
      refine hK.out _ _ (fun _ => HSS.out _ bwY1) ?_
      clear hK K nwY1
      generalize wD.alloc (.cells #[] 3) = wY1 at *
      (try simp only [pS])
      refine wpT_ready (rs := [4, 5]) (by kernel_rfl) (by simp) ?_
      refine AT (i := 4) (fun K hK => ?_) ?_
      · refine step_append_all rfl (.tmp 8) (.tmp 11) rfl wD.heap.size (.slice (some ⟨wD.heap.size, 0, none⟩) 0 0) [] rfl e0wY1 (by simp) bwY1.size b0 off0 c0 p.h0 rfl (by omega) (HH0.out wY1 bwY1) ?_
        intro v wY2 o0wY2 grwY2 rrwY2
        rw [List.nil_append] at o0wY2
        obtain ⟨g0, d0, rfl, l0, u0⟩ := own_form o0wY2 q1
        have bwY2 : Below wD.heap.size wD wY2 := push_below bwY1 (Below.refl _ _) bwY1.size e0wY1 grwY2
        have rg0 : g0 = wD.heap.size ∨ g0 = wY1.heap.size := by simpa [Value.ownBlock] using rrwY2
        have swY2 := bwY2.size
        clear grwY2 rrwY2
        refine hK.out _ _ (fun _ => HSS.out _ bwY2) ?_
        clear hK K
        (try simp only [pS])
        refine wpT_ready (rs := [5]) (by kernel_rfl) (by simp) ?_
        refine AT (i := 5) (fun K hK => ?_) AllT.nil
        go_simp
        have nwY3 : Below wY2.heap.size wY2 (wY2.alloc (.cells #[] 3)) := below_alloc (Below.refl _ _) _
        have e1wY3 : OwnInts wD.heap.size (wY2.alloc (.cells #[] 3)) (.slice (some ⟨wY2.heap.size, 0, none⟩) 0 0) [] := OwnInts.mono (own_empty wY2) bwY2.size
        have bwY3 : Below wD.heap.size wD (wY2.alloc (.cells #[] 3)) := bwY2.trans (nwY3.mono bwY2.size)
        have zwY3 : wY2.heap.size + 1 ≤ (wY2.alloc (.cells #[] 3)).heap.size := by simp
        have o0wY3 := OwnInts.upx o0wY2 nwY3
        refine hK.out _ _ (fun _ => HSS.out _ bwY3) ?_
        clear hK K nwY3
        generalize wY2.alloc (.cells #[] 3) = wY3 at *
        (try simp only [pS])
        refine wpT_ready (rs := [9]) (by kernel_rfl) (by simp) ?_
        refine AT (i := 9) (fun K hK => ?_) AllT.nil
        refine step_append_all rfl (.tmp 13) (.tmp 16) rfl wD.heap.size (.slice (some ⟨wY2.heap.size, 0, none⟩) 0 0) [] rfl e1wY3 (by simp) bwY3.size b1 off1 c1 p.h1 rfl (by omega) (HH1.out wY3 bwY3) ?_
        intro v wY4 o1wY4 grwY4 rrwY4
        rw [List.nil_append] at o1wY4
        obtain ⟨g1, d1, rfl, l1, u1⟩ := own_form o1wY4 r1
        have bwY4 : Below wD.heap.size wD wY4 := push_below bwY3 (Below.refl _ _) bwY3.size e1wY3 grwY4
        have rg1 : g1 = wY2.heap.size ∨ g1 = wY3.heap.size := by simpa [Value.ownBlock] using rrwY4
        have o0wY4 := OwnInts.alters o0wY3 (Alters.of_grown grwY4) (fun z hz hv => by simp [Value.ownBlock] at hz hv; omega)
        have swY4 := bwY4.size
        clear grwY4 rrwY4
        refine hK.out _ _ (fun _ => HSS.out _ bwY4) ?_
        clear hK K
        (try simp only [pS])
        have sz := HSS.out wY4 bwY4
        refine TT 10 ?_
        (try simp only [pS])
        refine TT 11 ?_
        (try simp only [pS])
        refine wpT_ready (rs := [12]) (by kernel_rfl) (by simp) ?_
        refine AT (i := 12) (fun K hK => ?_) AllT.nil
        have hB : wY4.heap[x]? = _ := (bwY4.block x (by omega)).trans hCd
        have f1 := bx_frozen hB 1
        have f2 := bx_frozen hB 2
        have y1 := sz.1
        have y2 := sz.2
        have lb := bx_lt hB
        have HE := Lib.hid (hands_set hd bwY4 (Below.refl _ _) hx2 hB (OwnInts.mono o0wY4 hMle) (OwnInts.mono o1wY4 hMle))
        have HNE := Lib.hid (show ¬ g0 = g1 by omega)
        have HL0 := Lib.hid (show w2.heap.size ≤ g0 by omega)
        have HL1 := Lib.hid (show w2.heap.size ≤ g1 by omega)
        go_simp
        refine hK.out _ _ (fun h => absurd rfl h) ?_
        refine wpT_done (by kernel_rfl) ?_ _
        clear hK K
        go_wp2_with fail
        go_meet
        case rel => exact ⟨g0, g1, d0, d1, HE.out.1, HE.out.2.1, HE.out.2.2.1, HNE.out, HL0.out, HL1.out, HE.out.2.2.2⟩
      refine AT (i := 5) (fun K hK => ?_) AllT.nil
      · go_simp
        have nwY2 : Below wY1.heap.size wY1 (wY1.alloc (.cells #[] 3)) := below_alloc (Below.refl _ _) _
        have e1wY2 : OwnInts wD.heap.size (wY1.alloc (.cells #[] 3)) (.slice (some ⟨wY1.heap.size, 0, none⟩) 0 0) [] := OwnInts.mono (own_empty wY1) bwY1.size
        have bwY2 : Below wD.heap.size wD (wY1.alloc (.cells #[] 3)) := bwY1.trans (nwY2.mono bwY1.size)
        have zwY2 : wY1.heap.size + 1 ≤ (wY1.alloc (.cells #[] 3)).heap.size := by simp
        have e0wY2 := OwnInts.upx e0wY1 nwY2
        refine hK.out _ _ (fun _ => HSS.out _ bwY2) ?_
        clear hK K nwY2
        generalize wY1.alloc (.cells #[] 3) = wY2 at *
        (try simp only [pS])
        refine wpT_ready (rs := [4]) (by kernel_rfl) (by simp) ?_
        refine AT (i := 4) (fun K hK => ?_) AllT.nil
        refine step_append_all rfl (.tmp 8) (.tmp 11) rfl wD.heap.size (.slice (some ⟨wD.heap.size, 0, none⟩) 0 0) [] rfl e0wY2 (by simp) bwY2.size b0 off0 c0 p.h0 rfl (by omega) (HH0.out wY2 bwY2) ?_
        intro v wY3 o0wY3 grwY3 rrwY3
        rw [List.nil_append] at o0wY3
        obtain ⟨g0, d0, rfl, l0, u0⟩ := own_form o0wY3 q1
        have bwY3 : Below wD.heap.size wD wY3 := push_below bwY2 (Below.refl _ _) bwY2.size e0wY2 grwY3
        have rg0 : g0 = wD.heap.size ∨ g0 = wY2.heap.size := by simpa [Value.ownBlock] using rrwY3
        have e1wY3 := OwnInts.alters e1wY2 (Alters.of_grown grwY3) (fun z hz hv => by simp [Value.ownBlock] at hz hv; omega)
        have swY3 := bwY3.size
        clear grwY3 rrwY3
        refine hK.out _ _ (fun _ => HSS.out _ bwY3) ?_
        clear hK K
        (try simp only [pS])
        refine wpT_ready (rs := [9]) (by kernel_rfl) (by simp) ?_
        refine AT (i := 9) (fun K hK => ?_) AllT.nil
        refine step_append_all rfl (.tmp 13) (.tmp 16) rfl wD.heap.size (.slice (some ⟨wY1.heap.size, 0, none⟩) 0 0) [] rfl e1wY3 (by simp) bwY3.size b1 off1 c1 p.h1 rfl (by omega) (HH1.out wY3 bwY3) ?_
        intro v wY4 o1wY4 grwY4 rrwY4
        rw [List.nil_append] at o1wY4
        obtain ⟨g1, d1, rfl, l1, u1⟩ := own_form o1wY4 r1
        have bwY4 : Below wD.heap.size wD wY4 := push_below bwY3 (Below.refl _ _) bwY3.size e1wY3 grwY4
        have rg1 : g1 = wY1.heap.size ∨ g1 = wY3.heap.size := by simpa [Value.ownBlock] using rrwY4
        have o0wY4 := OwnInts.alters o0wY3 (Alters.of_grown grwY4) (fun z hz hv => by simp [Value.ownBlock] at hz hv; omega)
        have swY4 := bwY4.size
        clear grwY4 rrwY4
        refine hK.out _ _ (fun _ => HSS.out _ bwY4) ?_
        clear hK K
        (try simp only [pS])
        have sz := HSS.out wY4 bwY4
        refine TT 10 ?_
        (try simp only [pS])
        refine TT 11 ?_
        (try simp only [pS])
        refine wpT_ready (rs := [12]) (by kernel_rfl) (by simp) ?_
        refine AT (i := 12) (fun K hK => ?_) AllT.nil
        have hB : wY4.heap[x]? = _ := (bwY4.block x (by omega)).trans hCd
        have f1 := bx_frozen hB 1
        have f2 := bx_frozen hB 2
        have y1 := sz.1
        have y2 := sz.2
        have lb := bx_lt hB
        have HE := Lib.hid (hands_set hd bwY4 (Below.refl _ _) hx2 hB (OwnInts.mono o0wY4 hMle) (OwnInts.mono o1wY4 hMle))
        have HNE := Lib.hid (show ¬ g0 = g1 by omega)
        have HL0 := Lib.hid (show w2.heap.size ≤ g0 by omega)
        have HL1 := Lib.hid (show w2.heap.size ≤ g1 by omega)
        go_simp
        refine hK.out _ _ (fun h => absurd rfl h) ?_
        refine wpT_done (by kernel_rfl) ?_ _
        clear hK K
        go_wp2_with fail
        go_meet
        case rel => exact ⟨g0, g1, d0, d1, HE.out.1, HE.out.2.1, HE.out.2.2.1, HNE.out, HL0.out, HL1.out, HE.out.2.2.2⟩
    refine AT (i := 5) (fun K hK => ?_) AllT.nil
    · go_simp
      have nwY1 : Below wD.heap.size wD (wD.alloc (.cells #[] 3)) := below_alloc (Below.refl _ _) _
      have e1wY1 : OwnInts wD.heap.size (wD.alloc (.cells #[] 3)) (.slice (some ⟨wD.heap.size, 0, none⟩) 0 0) [] := OwnInts.mono (own_empty wD) bwD.size
      have bwY1 : Below wD.heap.size wD (wD.alloc (.cells #[] 3)) := bwD.trans (nwY1.mono bwD.size)
      have zwY1 : wD.heap.size + 1 ≤ (wD.alloc (.cells #[] 3)).heap.size := by simp
      refine hK.out _ _ (fun _ => HSS.out _ bwY1) ?_
      clear hK K nwY1
      generalize wD.alloc (.cells #[] 3) = wY1 at *
      (try simp only [pS])
      refine wpT_ready (rs := [0]) (by kernel_rfl) (by simp) ?_
      refine AT (i := 0) (fun K hK => ?_) AllT.nil
      go_simp
      have nwY2 : Below wY1.heap.size wY1 (wY1.alloc (.cells #[] 3)) := below_alloc (Below.refl _ _) _
      have e0wY2 : OwnInts wD.heap.size (wY1.alloc (.cells #[] 3)) (.slice (some ⟨wY1.heap.size, 0, none⟩) 0 0) [] := OwnInts.mono (own_empty wY1) bwY1.size
      have bwY2 : Below wD.heap.size wD (wY1.alloc (.cells #[] 3)) := bwY1.trans (nwY2.mono bwY1.size)
      have zwY2 : wY1.heap.size + 1 ≤ (wY1.alloc (.cells #[] 3)).heap.size := by simp
      have e1wY2 := OwnInts.upx e1wY1 nwY2
      refine hK.out _ _ (fun _ => HSS.out _ bwY2) ?_
      clear hK K nwY2
      generalize wY1.alloc (.cells #[] 3) = wY2 at *
      (try simp only [pS])
      refine wpT_ready (rs := [4]) (by kernel_rfl) (by simp) ?_
      refine AT (i := 4) (fun K hK => ?_) AllT.nil
      refine step_append_all rfl (.tmp 8) (.tmp 11) rfl wD.heap.size (.slice (some ⟨wY1.heap.size, 0, none⟩) 0 0) [] rfl e0wY2 (by simp) bwY2.size b0 off0 c0 p.h0 rfl (by omega) (HH0.out wY2 bwY2) ?_
      intro v wY3 o0wY3 grwY3 rrwY3
      rw [List.nil_append] at o0wY3
      obtain ⟨g0, d0, rfl, l0, u0⟩ := own_form o0wY3 q1
      have bwY3 : Below wD.heap.size wD wY3 := push_below bwY2 (Below.refl _ _) bwY2.size e0wY2 grwY3
      have rg0 : g0 = wY1.heap.size ∨ g0 = wY2.heap.size := by simpa [Value.ownBlock] using rrwY3
      have e1wY3 := OwnInts.alters e1wY2 (Alters.of_grown grwY3) (fun z hz hv => by simp [Value.ownBlock] at hz hv; omega)
      have swY3 := bwY3.size
      clear grwY3 rrwY3
      refine hK.out _ _ (fun _ => HSS.out _ bwY3) ?_
      clear hK K
      (try simp only [pS])
      refine wpT_ready (rs := [9]) (by kernel_rfl) (by simp) ?_
      refine AT (i := 9) (fun K hK => ?_) AllT.nil
      refine step_append_all rfl (.tmp 13) (.tmp 16) rfl wD.heap.size (.slice (some ⟨wD.heap.size, 0, none⟩) 0 0) [] rfl e1wY3 (by simp) bwY3.size b1 off1 c1 p.h1 rfl (by omega) (HH1.out wY3 bwY3) ?_
      intro v wY4 o1wY4 grwY4 rrwY4
      rw [List.nil_append] at o1wY4
      obtain ⟨g1, d1, rfl, l1, u1⟩ := own_form o1wY4 r1
      have bwY4 : Below wD.heap.size wD wY4 := push_below bwY3 (Below.refl _ _) bwY3.size e1wY3 grwY4
      have rg1 : g1 = wD.heap.size ∨ g1 = wY3.heap.size := by simpa [Value.ownBlock] using rrwY4
      have o0wY4 := OwnInts.alters o0wY3 (Alters.of_grown grwY4) (fun z hz hv => by simp [Value.ownBlock] at hz hv; omega)
      have swY4 := bwY4.size
      clear grwY4 rrwY4
      refine hK.out _ _ (fun _ => HSS.out _ bwY4) ?_
      clear hK K
      (try simp only [pS])
      have sz := HSS.out wY4 bwY4
      refine TT 10 ?_
      (try simp only [pS])
      refine TT 11 ?_
      (try simp only [pS])
      refine wpT_ready (rs := [12]) (by kernel_rfl) (by simp) ?_
      refine AT (i := 12) (fun K hK => ?_) AllT.nil
      have hB : wY4.heap[x]? = _ := (bwY4.block x (by omega)).trans hCd
      have f1 := bx_frozen hB 1
      have f2 := bx_frozen hB 2
      have y1 := sz.1
      have y2 := sz.2
      have lb := bx_lt hB
      have HE := Lib.hid (hands_set hd bwY4 (Below.refl _ _) hx2 hB (OwnInts.mono o0wY4 hMle) (OwnInts.mono o1wY4 hMle))
      have HNE := Lib.hid (show ¬ g0 = g1 by omega)
      have HL0 := Lib.hid (show w2.heap.size ≤ g0 by omega)
      have HL1 := Lib.hid (show w2.heap.size ≤ g1 by omega)
      go_simp
      refine hK.out _ _ (fun h => absurd rfl h) ?_
      refine wpT_done (by kernel_rfl) ?_ _
      clear hK K
      go_wp2_with fail
      go_meet
      case rel => exact ⟨g0, g1, d0, d1, HE.out.1, HE.out.2.1, HE.out.2.2.1, HNE.out, HL0.out, HL1.out, HE.out.2.2.2⟩
  case rest =>
    obtain ⟨g0, g1, d0, d1, hC3, o0, o1, hne, l0, l1, ha3⟩ := hcut
    generalize wc = w3 at *
    have hx1 := bx_lt hR2
    have hR3 := (ha3.block (x + 1) hx1 (by omega)).trans hR2
    have ho3 : OwnInts w0.heap.size w3 (.slice (some ⟨g, 0, none⟩) p.cells.length d) p.cells := ho2.alters ha3 (fun z hz hv => by
      have e : z = x := hz
      have e2 : z = g := by simpa [Value.ownBlock] using hv
      omega)
    have hB3 : Below x w w3 := hb02.trans (ha3.below (by omega) (fun z hz => by have e : z = x := hz; omega))
    have hPO : POwn x w3 (some ⟨g, 0, none⟩) (some ⟨g0, 0, none⟩) (some ⟨g1, 0, none⟩) d d0 d1 p := ⟨OwnInts.mono ho3 (by omega), OwnInts.mono o0 (by omega), OwnInts.mono o1 (by omega)⟩
    have HPO := Lib.hid (hPO.row (B := x + 1) (cs := #[.slice (some ⟨g, 0, none⟩) p.cells.length d, .slice (some ⟨g0, 0, none⟩) p.h0.length d0, .slice (some ⟨g1, 0, none⟩) p.h1.length d1, .int .i64 p.rights, .int .i64 p.side]) hR3 (by decide))
    have hst := setRow_heap w3 (x + 1) _ #[.slice (some ⟨g, 0, none⟩) p.cells.length d, .slice (some ⟨g0, 0, none⟩) p.h0.length d0, .slice (some ⟨g1, 0, none⟩) p.h1.length d1, .int .i64 p.rights, .int .i64 p.side] _ _ hR3
    have hsa := setRow_alt w3 (x + 1) #[.slice (some ⟨g, 0, none⟩) p.cells.length d, .slice (some ⟨g0, 0, none⟩) p.h0.length d0, .slice (some ⟨g1, 0, none⟩) p.h1.length d1, .int .i64 p.rights, .int .i64 p.side]
    have HF := Lib.hid (hB3.trans (hsa.below (show x ≤ w3.heap.size by have := bx_lt hR3; omega) (fun z hz => by have e : z = x + 1 := hz; omega)))
    clear hPO hsa hB3 ho3 o0 o1 ha3 hc0 hc1 hb02 ho2 hR2 hC2
    go_wp2_with (first | (refine wpList_load_row rfl 27 (.tmp 1) rfl x rfl 27 _ (0, 0) _ hC3 Try.underlying27 rfl info_pos ?_) | (refine wpList_store_row rfl 27 (.tmp 2) (.tmp 20) rfl (x + 1) #[.slice (some ⟨g, 0, none⟩) p.cells.length d, .slice (some ⟨g0, 0, none⟩) p.h0.length d0, .slice (some ⟨g1, 0, none⟩) p.h1.length d1, .int .i64 p.rights, .int .i64 p.side] rfl rfl 27 _ hR3 info_pos rfl (by simp [Value.oneCell']) ?_))
    generalize w3.setRow (x + 1) #[.slice (some ⟨g, 0, none⟩) p.cells.length d, .slice (some ⟨g0, 0, none⟩) p.h0.length d0, .slice (some ⟨g1, 0, none⟩) p.h1.length d1, .int .i64 p.rights, .int .i64 p.side] = w4 at *
    refine bodyPost_ret_by (v := .agg #[.slice (some ⟨g, 0, none⟩) p.cells.length d, .slice (some ⟨g0, 0, none⟩) p.h0.length d0, .slice (some ⟨g1, 0, none⟩) p.h1.length d1, .int .i64 p.rights, .int .i64 p.side]) (results_cell_row rfl _ _ (x + 1) 27 _ (0, 0) _ rfl hst Try.underlying27 rfl info_pos) rfl ?_
    rw [← EX.out]
    exact ⟨g, g0, g1, d, d0, d1, rfl, HPO.out, ⟨by omega, by omega, hne⟩, HF.out⟩
end Go.Proofs.Ytepbmgbomdekaaa
