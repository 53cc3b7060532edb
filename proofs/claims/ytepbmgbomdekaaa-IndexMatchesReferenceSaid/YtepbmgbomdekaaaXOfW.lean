/-
  Of of the program.
-/
import Derived.Test.YtepbmgbomdekaaaXOf
import Derived.Test.YtepbmgbomdekaaaXGm
import Derived.Test.YtepbmgbomdekaaaXArr
import Derived.Test.YtepbmgbomdekaaaQTail
import Derived.Deep.RegionHeld3
namespace Go.Proofs.Ytepbmgbomdekaaa
open Go Go.RowKit Go.Lib

/-- The material of a position. -/
def matS (m : Nat) (q : List Nat) (p : PosS) : PosS := { p with cells := zs (countN m q) }
set_option maxRecDepth 100000 in
set_option maxHeartbeats 2000000 in
theorem of_any (v0 vn vt vr vm vc vb ve : Value) (p : PosS) (q : List Nat) (ak b b0 b1 : Option Addr) (nk ck c c0 c1 N m : Nat) (w : World) (hnk : nk ≤ 6) (hm : m = 2 * nk + 1) (hq : p.cells = zs q) (hql : q.length ≤ 64) (hqm : ∀ x ∈ q, x < m)
    (q1 : 1 ≤ p.h0.length) (q2 : p.h0.length ≤ 1000) (r1 : 1 ≤ p.h1.length) (r2 : p.h1.length ≤ 1000) (hN : N ≤ w.heap.size) (hP : PosIn N w b b0 b1 p) :
    Calls Try.prog 11 #[.agg #[v0, vn, vt, .slice ak nk ck, vr, vm, vc, vb, ve], PosV b b0 b1 c c0 c1 p] w fun e w' => ∃ a a0 a1 d d0 d1, e = .returned (PosV a a0 a1 d d0 d1 (matS m q p)) ∧ POwn w.heap.size w' a a0 a1 d d0 d1 (matS m q p) ∧ Below w.heap.size w w' := by
  obtain ⟨pc, h0, h1, rg, sd⟩ := p
  dsimp only at hq q1 q2 r1 r2
  subst hq
  unfold PosV
  dsimp only
  go_enter Try.func11, Try.ntmps11
  go_upto_region 1 with (fail)
  rw [show w.heap.size + 1 + 1 = w.heap.size + 2 from rfl]
  obtain ⟨hb0, hG, hQ, hR, hS0⟩ := three_boxes w #[v0, vn, vt, .slice ak nk ck, vr, vm, vc, vb, ve] #[.slice b (zs q).length c, .slice b0 h0.length c0, .slice b1 h1.length c1, .int .i64 rg, .int .i64 sd] #[.slice none 0 0, .slice none 0 0, .slice none 0 0, .int .i64 0, .int .i64 0] 35 27 39
  generalize ((w.alloc (.cells #[v0, vn, vt, .slice ak nk ck, vr, vm, vc, vb, ve] 35)).alloc (.cells #[.slice b (zs q).length c, .slice b0 h0.length c0, .slice b1 h1.length c1, .int .i64 rg, .int .i64 sd] 27)).alloc (.cells #[.slice none 0 0, .slice none 0 0, .slice none 0 0, .int .i64 0, .int .i64 0] 39) = w0 at *
  have hP0 := hP.up hN hb0
  obtain ⟨h, eh⟩ : ∃ h, h = w.heap.size := ⟨_, rfl⟩
  have EH := Lib.hid eh
  simp only [← eh] at hN hb0 hG hQ hR hS0 ⊢
  clear eh hP
  have HS0 := Lib.hid hS0
  have hs9 : h + 3 ≤ w0.heap.size := by omega
  clear hS0
  have HC := Lib.hid (contents_any v0 vn vt vr vm vc vb ve ak nk ck m w0 (by omega) hm)
  have hm13 : m ≤ 13 := by omega
  have HM := Lib.hid hm
  clear hm
  go_upto_region 2 with (first | (refine wpList_load_row rfl 35 (.tmp 2) rfl h rfl 35 _ (0, 0) _ hG Try.underlying35 rfl info_game ?_) | (go_at_call 31; refine HC.out.mono ?_; rintro e w1 ⟨rfl, hb1⟩) | (refine wpList_mk rfl _ _ rfl m rfl rfl (by omega) ?_; intro w5 hown5 hb5))
  have hQ5 := hp_up (hp_up hQ hb1) hb5
  have hR5 := hp_up (hp_up hR hb1) hb5
  have hb05 : Below h w w5 := hb0.trans ((below_step hb1 hb5).mono (by omega))
  have hP5 := (hP0.up (by omega) hb1).up (by have := hb1.size; omega) hb5
  have hs1 : w0.heap.size ≤ w1.heap.size := hb1.size
  have HQ5 := Lib.hid hQ5
  have HR5 := Lib.hid hR5
  have HB05 := Lib.hid hb05
  have HP5 := Lib.hid hP5
  have hCI := hP5.cells
  dsimp only at hCI
  have ho5 : OwnInts w1.heap.size w5 (.slice (some ⟨w1.heap.size, 0, none⟩) m m) (zs (countN m (q.take 0))) := by
    have e : zs (countN m (q.take 0)) = List.replicate m 0 := by rw [List.take_zero, countN_nil]; simp [zs]
    rw [e]; exact hown5
  have k0 : w5.cell? ⟨h + 1, 0, none⟩ = some (.slice b (zs q).length c) := bx_cell hQ5 0 rfl
  have hl5 := bx_lt hQ5
  clear hG hQ hR hQ5 hR5 hb0 hb1 hb5 hP0 hP5 hown5 HC hb05
  rw [zs_len] at k0
  generalize hM : w1.heap.size = M at *
  have HMM := Lib.hid hM
  clear hM
  go_wp2
  go_loopw [14] (fun i wr => ∃ k : Nat, k ≤ q.length ∧ i = .int .i64 k ∧ OwnInts M wr (.slice (some ⟨M, 0, none⟩) m m) (zs (countN m (q.take k))) ∧ Alters (fun z => z = M) w5 wr) (fun i _ => q.length - (RowKit.intOf i).toNat)
  case atStart => exact ⟨0, Nat.zero_le _, rfl, ho5, Alters.refl _ _⟩
  case round =>
    clear ho5 k0
    obtain ⟨k, hk, rfl, ho, ha⟩ := hrel
    by_cases hlt : k < q.length
    · obtain ⟨bb, off, rfl, hc5⟩ := hCI.zat hlt
      have hbN : bb < N := by
        rcases hCI with e | ⟨b2, off2, e, hn, _⟩
        · have := congrArg List.length e; rw [zs_len] at this; simp only [List.length_nil] at this; omega
        · cases e; exact hn
      have hc : wr.cell? ⟨bb, off + k, none⟩ = some (.int .i64 ((q.getD k 0 : Nat) : Int)) := (World.cell?_of_block (a := ⟨bb, off + k, none⟩) (ha.block bb (by have := HQ5; omega) (by show ¬ bb = M; omega))).trans hc5
      have hx : q.getD k 0 < m := hqm _ (by rw [List.getD_eq_getElem?_getD, List.getElem?_eq_getElem hlt, Option.getD_some]; exact List.getElem_mem hlt)
      have hsn : countN m (q.take (k + 1)) = (countN m (q.take k)).set (q.getD k 0) ((countN m (q.take k)).getD (q.getD k 0) 0 + 1) := by rw [take_one q k hlt]; exact countN_snoc m _ _ hx
      generalize q.getD k 0 = x at *
      have hlen : (countN m (q.take k)).length = m := countN_len _ _
      have hcnt : (countN m (q.take k)).getD x 0 ≤ 64 := by
        rw [countN_at, if_pos hx]
        exact Nat.le_trans List.count_le_length (by simp; omega)
      generalize countN m (q.take k) = A at *
      obtain ⟨cx, fx⟩ := ho.cellAt (j := x) (by rw [zs_len, hlen]; exact hx)
      rw [zs_get] at cx
      have HSN := Lib.hid (show OwnInts M (wr.setCell ⟨M, x, none⟩ (.int .i64 (((A.getD x 0 : Nat) : Int) + 1))) (.slice (some ⟨M, 0, none⟩) m m) (zs (countN m (q.take (k + 1)))) from by
        have e : zs (countN m (q.take (k + 1))) = (zs A).set x (((A.getD x 0 : Nat) : Int) + 1) := by
          rw [hsn]; simp only [zs, List.map_set, Int.natCast_add]; rfl
        rw [e]; exact ho.set x _)
      have HA := Lib.hid (ha.trans (alters_cell wr M x (.int .i64 (((A.getD x 0 : Nat) : Int) + 1))))
      generalize A.getD x 0 = y at *
      have hMr : M < wr.heap.size := World.block_lt_of_cell? _ _ cx
      have t1 : decide ((0 : Int) ≤ (x : Int)) = true := by simp
      have t2 : decide ((x : Int) < (m : Int)) = true := by simp; omega
      clear ho ha hsn hlen hc5 hCI
      go_wp2
      go_roundw
      case rel => exact ⟨k + 1, by omega, by go_num, HSN.out, HA.out⟩
      case measure => simp [RowKit.intOf]; omega
    · obtain rfl : k = q.length := by omega
      rw [List.take_length] at ho
      have hMh : h + 3 ≤ M := by omega
      have hQr : wr.heap[h + 1]? = some (.cells #[.slice b (zs q).length c, .slice b0 h0.length c0, .slice b1 h1.length c1, .int .i64 rg, .int .i64 sd] 27 (0, 0)) := (ha.block _ (bx_lt HQ5.out) (by omega)).trans HQ5.out
      have hRr : wr.heap[h + 2]? = some (.cells #[.slice none 0 0, .slice none 0 0, .slice none 0 0, .int .i64 0, .int .i64 0] 39 (0, 0)) := (ha.block _ (bx_lt HR5.out) (by omega)).trans HR5.out
      have hNr : N ≤ wr.heap.size := by have := bx_lt hQr; omega
      have hBr : Below h w wr := HB05.out.trans (ha.below (by omega) (fun z hz => by have : z = M := hz; omega))
      have hb5r : Below N w5 wr := ha.below (by omega) (fun z hz => by have : z = M := hz; omega)
      have hH0 := HP5.out.h0.below hb5r
      have hH1 := HP5.out.h1.below hb5r
      dsimp only at hH0 hH1
      have hd : Below wr.heap.size wr wr.drew := (Below.refl _ _).drew
      have HC := Lib.hid (icopied_any h0 h1 b0 b1 c0 c1 N wr.drew q1 q2 r1 r2 hNr (hH0.up hNr hd) (hH1.up hNr hd))
      have HO := Lib.hid (show OwnInts M wr.drew (.slice (some ⟨M, 0, none⟩) m m) (zs (countN m q)) from ho)
      have HBr := Lib.hid (show Below h w wr.drew from hBr.drew)
      have HRd := Lib.hid (show wr.drew.heap[h + 2]? = _ from hRr)
      have hQd : wr.drew.heap[h + 1]? = _ := hQr
      have hsd : h + 3 ≤ wr.drew.heap.size := bx_lt hRr
      clear ho ha hQr hRr hNr hBr hb5r hH0 hH1 hd hCI hl5 HP5 HQ5 HR5 HB05
      go_wp2_with fail
      have hS : wr.drew.cell? ⟨h + 1, 1, none⟩ = some (.slice b0 h0.length c0) ∧ wr.drew.cell? ⟨h + 1, 2, none⟩ = some (.slice b1 h1.length c1) ∧ wr.drew.cell? ⟨h + 1, 3, none⟩ = some (.int .i64 rg) ∧ wr.drew.cell? ⟨h + 1, 4, none⟩ = some (.int .i64 sd) := ⟨bx_cell hQd 1 rfl, bx_cell hQd 2 rfl, bx_cell hQd 3 rfl, bx_cell hQd 4 rfl⟩
      clear hQd
      refine wp_region_held_drew (S := fun W => W.cell? ⟨h + 1, 1, none⟩ = some (.slice b0 h0.length c0) ∧ W.cell? ⟨h + 1, 2, none⟩ = some (.slice b1 h1.length c1) ∧ W.cell? ⟨h + 1, 3, none⟩ = some (.int .i64 rg) ∧ W.cell? ⟨h + 1, 4, none⟩ = some (.int .i64 sd)) (by kernel_rfl) hS (fun hHeld => ?_)
      generalize wr.drew = wD at *
      refine TK 0 ?_
      (try simp only [pS])
      refine TK 1 ?_
      (try simp only [pS])
      refine TK 2 ?_
      (try simp only [pS])
      refine TK 4 ?_
      (try simp only [pS])
      refine TK 5 ?_
      (try simp only [pS])
      refine TK 6 ?_
      (try simp only [pS])
      refine TK 7 ?_
      (try simp only [pS])
      refine wpAnyH_ready (rs := [3]) (by kernel_rfl) (by simp) ?_
      refine AC (i := 3) (fun K hK => ?_) AllReadyH.nil
      refine step_call_h rfl 32 _ _ #[.agg #[.slice b0 h0.length c0, .slice b1 h1.length c1]] rfl rfl (enters_of Try.func32 (by kernel_rfl) rfl) (HC.out.mono ?_)
      rintro e w2 ⟨g0, g1, d0, d1, rfl, o0, o1, hb2⟩
      have hS2 : w2.cell? ⟨h + 1, 1, none⟩ = some (.slice b0 h0.length c0) ∧ w2.cell? ⟨h + 1, 2, none⟩ = some (.slice b1 h1.length c1) ∧ w2.cell? ⟨h + 1, 3, none⟩ = some (.int .i64 rg) ∧ w2.cell? ⟨h + 1, 4, none⟩ = some (.int .i64 sd) := ⟨cell_keep hb2 hHeld.1, cell_keep hb2 hHeld.2.1, cell_keep hb2 hHeld.2.2.1, cell_keep hb2 hHeld.2.2.2⟩
      refine ⟨_, rfl, hK.out _ _ hS2 (fun _ => ?_)⟩
      clear hK K hS hHeld
      (try simp only [pS])
      refine TK 8 ?_
      (try simp only [pS])
      refine wpAnyH_ready (rs := [9]) (by kernel_rfl) (by simp) ?_
      refine AC (i := 9) (fun K hK => ?_) AllReadyH.nil
      have hR2 := hp_up HRd.out hb2
      refine step_store_rw rfl 39 _ _ rfl (h + 2) #[.slice (some ⟨M, 0, none⟩) m m, .slice g0 h0.length d0, .slice g1 h1.length d1, .int .i64 rg, .int .i64 sd] rfl rfl 39 _ hR2 info_mat rfl (by simp [Value.oneCell']) ?_
      have hne : ¬ h + 1 = h + 2 := by omega
      have hfar : ∀ j, (w2.setRow (h + 2) #[.slice (some ⟨M, 0, none⟩) m m, .slice g0 h0.length d0, .slice g1 h1.length d1, .int .i64 rg, .int .i64 sd]).cell? ⟨h + 1, j, none⟩ = w2.cell? ⟨h + 1, j, none⟩ := fun j => World.cell?_of_block (a := ⟨h + 1, j, none⟩) (setRow_other w2 (h + 2) (h + 1) _ (by omega))
      refine hK.out _ _ ⟨(hfar 1).trans hS2.1, (hfar 2).trans hS2.2.1, (hfar 3).trans hS2.2.2.1, (hfar 4).trans hS2.2.2.2⟩ (fun _ => ?_)
      clear hK K hfar
      refine wpAnyH_done (by kernel_rfl) ?_ _
      have hX := setRow_heap w2 (h + 2) _ #[.slice (some ⟨M, 0, none⟩) m m, .slice g0 h0.length d0, .slice g1 h1.length d1, .int .i64 rg, .int .i64 sd] _ _ hR2
      have ha2 := setRow_alt w2 (h + 2) #[.slice (some ⟨M, 0, none⟩) m m, .slice g0 h0.length d0, .slice g1 h1.length d1, .int .i64 rg, .int .i64 sd]
      generalize w2.setRow (h + 2) #[.slice (some ⟨M, 0, none⟩) m m, .slice g0 h0.length d0, .slice g1 h1.length d1, .int .i64 rg, .int .i64 sd] = w3 at *
      have hoM : OwnInts M w3 (.slice (some ⟨M, 0, none⟩) m m) (zs (countN m q)) := by
        have h1 := OwnInts.alters HO.out (Alters.of_below (S := fun _ => False) hb2) (fun _ h => h.elim)
        exact h1.alters ha2 (fun k hk hv => by have e : k = h + 2 := hk; have := (World.ownsRow.lt h1 k hv.symm).1; omega)
      have ho0 : OwnInts wD.heap.size w3 (.slice g0 h0.length d0) h0 := o0.alters ha2 (fun k hk hv => by have e : k = h + 2 := hk; have := (World.ownsRow.lt o0 k hv.symm).1; omega)
      have ho1 : OwnInts wD.heap.size w3 (.slice g1 h1.length d1) h1 := o1.alters ha2 (fun k hk hv => by have e : k = h + 2 := hk; have := (World.ownsRow.lt o1 k hv.symm).1; omega)
      have hb3 : Below h w w3 := (HBr.out.trans (hb2.mono (by omega))).trans (ha2.below (by have := bx_lt hR2; omega) (fun z hz => by have : z = h + 2 := hz; omega))
      have HRES := Lib.hid (show POwn h w3 (some ⟨M, 0, none⟩) g0 g1 m d0 d1 (matS m q ⟨zs q, h0, h1, rg, sd⟩) ∧ Below h w w3 from by
        refine ⟨⟨?_, OwnInts.mono ho0 (by omega), OwnInts.mono ho1 (by omega)⟩, hb3⟩
        unfold matS
        dsimp only
        rw [zs_len, countN_len]
        exact OwnInts.mono hoM (by omega))
      clear hoM ho0 ho1 hb3 ha2 hR2 o0 o1 hb2 HO HBr HRd HC hS2
      go_wp2
      refine bodyPost_ret_by (v := .agg #[.slice (some ⟨M, 0, none⟩) m m, .slice g0 h0.length d0, .slice g1 h1.length d1, .int .i64 rg, .int .i64 sd]) (results_cell_row rfl _ _ (h + 2) 39 _ (0, 0) _ rfl hX Try.underlying39 rfl info_mat) rfl ?_
      have eh := EH.out
      rw [← eh]
      exact ⟨some ⟨M, 0, none⟩, g0, g1, m, d0, d1, by unfold matS; dsimp only; rw [zs_len, countN_len], HRES.out⟩
end Go.Proofs.Ytepbmgbomdekaaa
