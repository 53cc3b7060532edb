/-
  R14.Of.
-/
import Derived.Test.YtepbmgbomdekaaaXCpd
import Derived.Test.YtepbmgbomdekaaaXOfW
namespace Go.Proofs.Ytepbmgbomdekaaa
open Go Go.RowKit

/-- What the material is built of. -/
structure OS (x y : Nat) (sk s3 s4 : Value) (Y : List Value) (W : World) : Prop where
  g3 : W.cell? ⟨x, 3, none⟩ = some sk
  hy : W.heap[y]? = some (.cells Y.toArray 27 (0, 0))
  c3 : W.cell? ⟨x + 1, 3, none⟩ = some s3
  c4 : W.cell? ⟨x + 1, 4, none⟩ = some s4
theorem OS.up {x y : Nat} {sk s3 s4 : Value} {Y : List Value} {W W' : World} (h : OS x y sk s3 s4 Y W) (hb : Below W.heap.size W W') : OS x y sk s3 s4 Y W' := ⟨cell_up h.g3 hb, hp_up h.hy hb, cell_up h.c3 hb, cell_up h.c4 hb⟩
theorem cell_row {W : World} {B b o : Nat} {u : Value} {cs : Array Value} (h : W.cell? ⟨b, o, none⟩ = some u) (hb : ¬ b = B) : (W.setRow B cs).cell? ⟨b, o, none⟩ = some u :=
  (World.cell?_of_block (a := ⟨b, o, none⟩) (setRow_other W B b cs hb)).trans h
theorem OS.row {x y B : Nat} {sk s3 s4 : Value} {Y : List Value} {W : World} {cs : Array Value} (h : OS x y sk s3 s4 Y W) (h1 : x + 1 < B) (h2 : y < B) : OS x y sk s3 s4 Y (W.setRow B cs) :=
  ⟨cell_row h.g3 (by omega), (setRow_other W B y cs (by omega)).trans h.hy, cell_row h.c3 (by omega), cell_row h.c4 (by omega)⟩
theorem own_row {n B : Nat} {W : World} {v : Value} {l : List Int} {cs old : Array Value} (h : OwnInts n W v l) (hB : W.heap[B]? = some (.cells old 39 (0, 0))) : OwnInts n (W.setRow B cs) v l :=
  h.alters (setRow_alt W B cs) (fun k hk => by have e : k = B := hk; subst e; exact own_ne h hB (by decide))
set_option maxRecDepth 100000 in
set_option maxHeartbeats 4000000 in
theorem rof_any (v0 vn vt vr vm vc vb ve : Value) (p : PosS) (q : List Nat) (ak b b0 b1 : Option Addr) (nk ck c c0 c1 N m : Nat) (w : World) (hnk : nk ≤ 6) (hm : m = 2 * nk + 1) (hq : p.cells = zs q) (hq1 : 1 ≤ q.length) (hql : q.length ≤ 64) (hqm : ∀ x ∈ q, x < m)
    (q1 : 1 ≤ p.h0.length) (q2 : p.h0.length ≤ 1000) (r1 : 1 ≤ p.h1.length) (r2 : p.h1.length ≤ 1000) (hN : N ≤ w.heap.size) (hP : PosIn N w b b0 b1 p) :
    Calls Try.prog 13 #[.agg #[v0, vn, vt, .slice ak nk ck, vr, vm, vc, vb, ve], PosV b b0 b1 c c0 c1 p] w fun e w' => ∃ a a0 a1 d d0 d1, e = .returned (PosV a a0 a1 d d0 d1 (matS m q p)) ∧ POwn w.heap.size w' a a0 a1 d d0 d1 (matS m q p) ∧ Below w.heap.size w w' := by
  obtain ⟨pc, h0, h1, rg, sd⟩ := p
  dsimp only at hq q1 q2 r1 r2
  subst hq
  obtain ⟨hb0, hG, hQ, hR, hS0⟩ := three_boxes w #[v0, vn, vt, .slice ak nk ck, vr, vm, vc, vb, ve] #[.slice b (zs q).length c, .slice b0 h0.length c0, .slice b1 h1.length c1, .int .i64 rg, .int .i64 sd] #[.slice none 0 0, .slice none 0 0, .slice none 0 0, .int .i64 0, .int .i64 0] 35 27 39
  have hP0 := hP.up hN hb0
  have HC := Lib.hid (rCopied_any ⟨zs q, h0, h1, rg, sd⟩ b b0 b1 c c0 c1 N _ (by rw [zs_len]; exact hq1) (by rw [zs_len]; omega) q1 q2 r1 r2 (Nat.le_trans hN hb0.size) hP0)
  unfold PosV at *
  dsimp only at HC ⊢
  go_enter Try.func13, Try.ntmps13
  go_upto_region 1 with (fail)
  rw [show w.heap.size + 1 + 1 = w.heap.size + 2 from rfl]
  generalize ((w.alloc (.cells #[v0, vn, vt, .slice ak nk ck, vr, vm, vc, vb, ve] 35)).alloc (.cells #[.slice b (zs q).length c, .slice b0 h0.length c0, .slice b1 h1.length c1, .int .i64 rg, .int .i64 sd] 27)).alloc (.cells #[.slice none 0 0, .slice none 0 0, .slice none 0 0, .int .i64 0, .int .i64 0] 39) = w0 at *
  obtain ⟨x, hx⟩ : ∃ x, x = w.heap.size := ⟨_, rfl⟩
  have EX := Lib.hid hx
  simp only [← hx] at hN hb0 hG hQ hR hS0 ⊢
  have hs9 : x + 3 ≤ w0.heap.size := by omega
  clear hx hP hS0
  go_upto_region 2 with (first | (refine wpList_load_row rfl 27 (.tmp 3) rfl (x + 1) rfl 27 _ (0, 0) _ hQ Try.underlying27 rfl info_pos ?_) | (go_at_call 23; refine HC.out.mono ?_; rintro e w1 ⟨g, g0, g1, d, d0, d1, rfl, hO, hap, hb1⟩; have hQ1 := hp_up hQ hb1))
  have hb3 : Below w1.heap.size w1 (w1.alloc (.cells #[.slice (some ⟨g, 0, none⟩) (zs q).length d, .slice (some ⟨g0, 0, none⟩) h0.length d0, .slice (some ⟨g1, 0, none⟩) h1.length d1, .int .i64 rg, .int .i64 sd] 27)) := below_alloc (Below.refl _ _) _
  have hY3 := World.alloc_heap_new w1 (.cells #[.slice (some ⟨g, 0, none⟩) (zs q).length d, .slice (some ⟨g0, 0, none⟩) h0.length d0, .slice (some ⟨g1, 0, none⟩) h1.length d1, .int .i64 rg, .int .i64 sd] 27)
  obtain ⟨y, hy⟩ : ∃ y, y = w1.heap.size := ⟨_, rfl⟩
  have hO3 := hO.upx hb3
  have hG3 := hp_up (hp_up hG hb1) hb3
  have hQ3 := hp_up hQ1 hb3
  have hR3 := hp_up (hp_up hR hb1) hb3
  have hs1 := hb1.size
  have hB3 := (hb0.trans (hb1.mono (by omega))).trans (hb3.mono (by omega))
  have hI3 := (hP0.cells.up (show N ≤ w0.heap.size by omega) hb1).up (show N ≤ w1.heap.size by omega) hb3
  generalize w1.alloc (.cells #[.slice (some ⟨g, 0, none⟩) (zs q).length d, .slice (some ⟨g0, 0, none⟩) h0.length d0, .slice (some ⟨g1, 0, none⟩) h1.length d1, .int .i64 rg, .int .i64 sd] 27) = w3 at *
  simp only [← hy] at hY3 hs1 ⊢
  have hly := bx_lt hY3
  clear HC hO hQ1 hb1 hb3 hG hQ hR hP0 hy hb0
  have em : 2 * (nk : Int) + 1 = (m : Int) := by omega
  have i1 : IntKind.i64.wrap (2 * (nk : Int)) = 2 * (nk : Int) := IntWalk.i64_in _ (by omega)
  have i2 : IntKind.i64.wrap (m : Int) = (m : Int) := IntWalk.i64_in _ (by omega)
  have hm13 : m ≤ 13 := by omega
  have HM := Lib.hid hm
  clear hm
  go_cut [6] (fun v wx => ∃ B M, v = .pointer (some ⟨B, 0, none⟩) ∧ wx.heap[B]? = some (.cells #[.slice (some ⟨M, 0, none⟩) m m, .slice (some ⟨g0, 0, none⟩) h0.length d0, .slice (some ⟨g1, 0, none⟩) h1.length d1, .int .i64 rg, .int .i64 sd] 39 (0, 0)) ∧ OwnInts w3.heap.size wx (.slice (some ⟨M, 0, none⟩) m m) (List.replicate m 0) ∧ w3.heap.size ≤ B ∧ w3.heap.size ≤ M ∧ Below w3.heap.size w3 wx)
  case first =>
    have hd : Below w3.heap.size w3 w3.drew := (Below.refl _ _).drew
    have hS0 : (OS x y (.slice ak nk ck) (.int .i64 rg) (.int .i64 sd) [.slice (some ⟨g, 0, none⟩) (zs q).length d, .slice (some ⟨g0, 0, none⟩) h0.length d0, .slice (some ⟨g1, 0, none⟩) h1.length d1, .int .i64 rg, .int .i64 sd]) w3 := ⟨bx_cell hG3 3 rfl, hY3, bx_cell hQ3 3 rfl, bx_cell hQ3 4 rfl⟩
    have hle : w3.heap.size ≤ w3.drew.heap.size := Nat.le_refl _
    have hlx := bx_lt hQ3
    refine wp_region_held_drew (S := (OS x y (.slice ak nk ck) (.int .i64 rg) (.int .i64 sd) [.slice (some ⟨g, 0, none⟩) (zs q).length d, .slice (some ⟨g0, 0, none⟩) h0.length d0, .slice (some ⟨g1, 0, none⟩) h1.length d1, .int .i64 rg, .int .i64 sd])) (by kernel_rfl) (hS0.up hd) (fun hSwD => ?_)
    generalize w3.drew = wD at *
    clear hS0 hY3 hO3 hG3 hQ3 hR3 hB3 hI3
    refine TC 0 ?_
    (try simp only [pS])
    refine TC 1 ?_
    (try simp only [pS])
    refine TC 2 ?_
    (try simp only [pS])
    refine TC 3 ?_
    (try simp only [pS])
    refine TC 4 ?_
    (try simp only [pS])
    refine TC 6 ?_
    (try simp only [pS])
    refine TX 7 (YL rfl 25 _ rfl y 1 rfl _ [.slice (some ⟨g0, 0, none⟩) h0.length d0, .slice (some ⟨g1, 0, none⟩) h1.length d1] _ _ (fun _ h => h.hy) rfl Try.underlying25 rfl info_hand) ?_
    (try simp only [pS])
    refine TC 8 ?_
    (try simp only [pS])
    refine TC 9 ?_
    (try simp only [pS])
    refine TC 10 ?_
    (try simp only [pS])
    refine TC 11 ?_
    (try simp only [pS])
    refine wpAnyH_ready (rs := [5, 13]) (by kernel_rfl) (by simp) ?_
    refine AC (i := 5) (fun K hK => ?_) ?_
    · refine step_mk rfl _ _ rfl m rfl rfl (by omega) ?_
      intro wa oM bwa
      have hSwa := hSwD.up bwa
      refine hK.out _ _ hSwa (fun _ => ?_)
      clear hK K
      (try simp only [pS])
      refine TC 12 ?_
      (try simp only [pS])
      refine wpAnyH_ready (rs := [13]) (by kernel_rfl) (by simp) ?_
      refine AC (i := 13) (fun K hK => ?_) AllReadyH.nil
      refine step_al rfl (cs := #[.slice none 0 0, .slice none 0 0, .slice none 0 0, .int .i64 0, .int .i64 0]) (t := 39) (by go_simp; try rfl) ?_
      have bwb : Below wa.heap.size wa (wa.alloc (.cells #[.slice none 0 0, .slice none 0 0, .slice none 0 0, .int .i64 0, .int .i64 0] 39)) := below_alloc (Below.refl _ _) _
      have zwb := World.alloc_heap_new wa (.cells #[.slice none 0 0, .slice none 0 0, .slice none 0 0, .int .i64 0, .int .i64 0] 39)
      have hSwb := hSwa.up bwb
      replace oM := oM.upx bwb
      refine hK.out _ _ hSwb (fun _ => ?_)
      clear hK K
      (try simp only [pS])
      generalize wa.alloc (.cells #[.slice none 0 0, .slice none 0 0, .slice none 0 0, .int .i64 0, .int .i64 0] 39) = wb at *
      refine wpAnyH_ready (rs := [14]) (by kernel_rfl) (by simp) ?_
      refine AC (i := 14) (fun K hK => ?_) AllReadyH.nil
      have hZ := zwb
      have s1 := bwa.size
      have s2 := bwb.size
      refine step_store_rw rfl 39 _ _ rfl wa.heap.size #[.slice (some ⟨wD.heap.size, 0, none⟩) m m, .slice (some ⟨g0, 0, none⟩) h0.length d0, .slice (some ⟨g1, 0, none⟩) h1.length d1, .int .i64 rg, .int .i64 sd] rfl rfl 39 _ hZ info_mat rfl (by simp [Value.oneCell']) ?_
      have hB9 := (hd.trans (bwa.mono hle)).trans (bwb.mono (by omega))
      have HF := Lib.hid (And.intro (setRow_heap wb wa.heap.size _ #[.slice (some ⟨wD.heap.size, 0, none⟩) m m, .slice (some ⟨g0, 0, none⟩) h0.length d0, .slice (some ⟨g1, 0, none⟩) h1.length d1, .int .i64 rg, .int .i64 sd] _ _ hZ) (And.intro (OwnInts.mono (own_row (cs := #[.slice (some ⟨wD.heap.size, 0, none⟩) m m, .slice (some ⟨g0, 0, none⟩) h0.length d0, .slice (some ⟨g1, 0, none⟩) h1.length d1, .int .i64 rg, .int .i64 sd]) oM hZ) (show w3.heap.size ≤ wD.heap.size by omega)) (hB9.trans ((setRow_alt wb wa.heap.size #[.slice (some ⟨wD.heap.size, 0, none⟩) m m, .slice (some ⟨g0, 0, none⟩) h0.length d0, .slice (some ⟨g1, 0, none⟩) h1.length d1, .int .i64 rg, .int .i64 sd]).below (by omega) (fun k hk => by have e : k = wa.heap.size := hk; omega)))))
      have HL := Lib.hid (show w3.heap.size ≤ wa.heap.size ∧ w3.heap.size ≤ wD.heap.size by omega)
      refine hK.out _ _ (hSwb.row (by omega) (by omega)) (fun _ => ?_)
      clear hK K
      refine wpAnyH_done (by kernel_rfl) ?_ _
      go_wp2_with fail
      go_meet
      case rel => exact ⟨wa.heap.size, wD.heap.size, rfl, HF.out.1, HF.out.2.1, HL.out.1, HL.out.2, HF.out.2.2⟩
    refine AC (i := 13) (fun K hK => ?_) AllReadyH.nil
    refine step_al rfl (cs := #[.slice none 0 0, .slice none 0 0, .slice none 0 0, .int .i64 0, .int .i64 0]) (t := 39) (by go_simp; try rfl) ?_
    have bwa : Below wD.heap.size wD (wD.alloc (.cells #[.slice none 0 0, .slice none 0 0, .slice none 0 0, .int .i64 0, .int .i64 0] 39)) := below_alloc (Below.refl _ _) _
    have zwa := World.alloc_heap_new wD (.cells #[.slice none 0 0, .slice none 0 0, .slice none 0 0, .int .i64 0, .int .i64 0] 39)
    have hSwa := hSwD.up bwa
    skip
    refine hK.out _ _ hSwa (fun _ => ?_)
    clear hK K
    (try simp only [pS])
    generalize wD.alloc (.cells #[.slice none 0 0, .slice none 0 0, .slice none 0 0, .int .i64 0, .int .i64 0] 39) = wa at *
    refine wpAnyH_ready (rs := [5]) (by kernel_rfl) (by simp) ?_
    refine AC (i := 5) (fun K hK => ?_) AllReadyH.nil
    refine step_mk rfl _ _ rfl m rfl rfl (by omega) ?_
    intro wb oM bwb
    have hSwb := hSwa.up bwb
    refine hK.out _ _ hSwb (fun _ => ?_)
    clear hK K
    (try simp only [pS])
    refine TC 12 ?_
    (try simp only [pS])
    refine wpAnyH_ready (rs := [14]) (by kernel_rfl) (by simp) ?_
    refine AC (i := 14) (fun K hK => ?_) AllReadyH.nil
    have hZ := hp_up zwa bwb
    have s1 := bwa.size
    have s2 := bwb.size
    refine step_store_rw rfl 39 _ _ rfl wD.heap.size #[.slice (some ⟨wa.heap.size, 0, none⟩) m m, .slice (some ⟨g0, 0, none⟩) h0.length d0, .slice (some ⟨g1, 0, none⟩) h1.length d1, .int .i64 rg, .int .i64 sd] rfl rfl 39 _ hZ info_mat rfl (by simp [Value.oneCell']) ?_
    have hB9 := (hd.trans (bwa.mono hle)).trans (bwb.mono (by omega))
    have HF := Lib.hid (And.intro (setRow_heap wb wD.heap.size _ #[.slice (some ⟨wa.heap.size, 0, none⟩) m m, .slice (some ⟨g0, 0, none⟩) h0.length d0, .slice (some ⟨g1, 0, none⟩) h1.length d1, .int .i64 rg, .int .i64 sd] _ _ hZ) (And.intro (OwnInts.mono (own_row (cs := #[.slice (some ⟨wa.heap.size, 0, none⟩) m m, .slice (some ⟨g0, 0, none⟩) h0.length d0, .slice (some ⟨g1, 0, none⟩) h1.length d1, .int .i64 rg, .int .i64 sd]) oM hZ) (show w3.heap.size ≤ wa.heap.size by omega)) (hB9.trans ((setRow_alt wb wD.heap.size #[.slice (some ⟨wa.heap.size, 0, none⟩) m m, .slice (some ⟨g0, 0, none⟩) h0.length d0, .slice (some ⟨g1, 0, none⟩) h1.length d1, .int .i64 rg, .int .i64 sd]).below (by omega) (fun k hk => by have e : k = wD.heap.size := hk; omega)))))
    have HL := Lib.hid (show w3.heap.size ≤ wD.heap.size ∧ w3.heap.size ≤ wa.heap.size by omega)
    refine hK.out _ _ (hSwb.row (by omega) (by omega)) (fun _ => ?_)
    clear hK K
    refine wpAnyH_done (by kernel_rfl) ?_ _
    go_wp2_with fail
    go_meet
    case rel => exact ⟨wD.heap.size, wa.heap.size, rfl, HF.out.1, HF.out.2.1, HL.out.1, HL.out.2, HF.out.2.2⟩
  case rest =>
    obtain ⟨B, M, rfl, hM4, oM4, hBl, hMl, hb4⟩ := hcut
    generalize wc = w4 at *
    have hxl := bx_lt hR3
    have lg0 := (World.ownsRow.lt hO3.h0 g0 rfl).2
    have lg1 := (World.ownsRow.lt hO3.h1 g1 rfl).2
    have hQ4 := hp_up hQ3 hb4
    have hR4 := hp_up hR3 hb4
    have hI4 := hI3.up (show N ≤ w3.heap.size by omega) hb4
    have hO4 := hO3.upx hb4
    have hB4 := hB3.trans (hb4.mono (by omega))
    dsimp only at hI4
    rw [zs_len] at hQ4
    have hBM : ¬ B = M := fun e => own_ne oM4 hM4 (by decide) (by rw [e]; rfl)
    have oM5 : OwnInts w3.heap.size w4 (.slice (some ⟨M, 0, none⟩) m m) (zs (countN m (q.take 0))) := by
      have e : zs (countN m (q.take 0)) = List.replicate m 0 := by rw [List.take_zero, countN_nil]; simp [zs]
      rw [e]; exact oM4
    clear hb4 hI3 hR3 hQ3 hG3 hY3 hB3 hO3 oM4
    have HO4 := Lib.hid hO4
    have HB4 := Lib.hid hB4
    have HR4 := Lib.hid hR4
    have HQ4 := Lib.hid hQ4
    have HM4 := Lib.hid hM4
    have lB4 := bx_lt hM4
    have lQ4 := bx_lt hQ4
    clear hO4 hB4 hR4 hQ4 hM4
    go_wp2
    go_loopw [7] (fun i wr => ∃ k : Nat, k ≤ q.length ∧ i = .int .i64 k ∧ Hid (OwnInts w3.heap.size wr (.slice (some ⟨M, 0, none⟩) m m) (zs (countN m (q.take k)))) ∧ Hid (Alters (fun z => z = M) w4 wr)) (fun i _ => q.length - (RowKit.intOf i).toNat)
    case atStart => exact ⟨0, Nat.zero_le _, rfl, Lib.hid oM5, Lib.hid (Alters.refl _ _)⟩
    case round =>
    clear oM5
    obtain ⟨k, hk, rfl, ho, ha⟩ := hrel
    have hMr := (ha.out.block B lB4 hBM).trans HM4.out
    have hQr := (ha.out.block (x + 1) lQ4 (by omega)).trans HQ4.out
    have e0 : wr.cell? ⟨B, 0, none⟩ = some (.slice (some ⟨M, 0, none⟩) m m) := bx_cell hMr 0 rfl
    have k0 : wr.cell? ⟨x + 1, 0, none⟩ = some (.slice b q.length c) := bx_cell hQr 0 rfl
    have lBr := bx_lt hMr
    have lQr := bx_lt hQr
    by_cases hlt : k < q.length
    · obtain ⟨bb, off, rfl, hc5⟩ := hI4.zat hlt
      have hbN : bb < N := by
        rcases hI4 with e | ⟨b2, off2, e, hn, _⟩
        · have := congrArg List.length e; rw [zs_len] at this; simp only [List.length_nil] at this; omega
        · cases e; exact hn
      have hc : wr.cell? ⟨bb, off + k, none⟩ = some (.int .i64 ((q.getD k 0 : Nat) : Int)) := (World.cell?_of_block (a := ⟨bb, off + k, none⟩) (ha.out.block bb (by omega) (by show ¬ bb = M; omega))).trans hc5
      have hz : q.getD k 0 < m := hqm _ (by rw [List.getD_eq_getElem?_getD, List.getElem?_eq_getElem hlt, Option.getD_some]; exact List.getElem_mem hlt)
      have hsn : countN m (q.take (k + 1)) = (countN m (q.take k)).set (q.getD k 0) ((countN m (q.take k)).getD (q.getD k 0) 0 + 1) := by rw [take_one q k hlt]; exact countN_snoc m _ _ hz
      generalize q.getD k 0 = z at *
      have hlen : (countN m (q.take k)).length = m := countN_len _ _
      have hcnt : (countN m (q.take k)).getD z 0 ≤ 64 := by
        rw [countN_at, if_pos hz]
        exact Nat.le_trans List.count_le_length (by simp; omega)
      have ho := ho.out
      generalize countN m (q.take k) = A at *
      obtain ⟨cx, fx⟩ := ho.cellAt (j := z) (by rw [zs_len, hlen]; exact hz)
      rw [zs_get] at cx
      have HSN := Lib.hid (show OwnInts w3.heap.size (wr.drew.setCell ⟨M, z, none⟩ (.int .i64 (((A.getD z 0 : Nat) : Int) + 1))) (.slice (some ⟨M, 0, none⟩) m m) (zs (countN m (q.take (k + 1)))) from by
        have e : zs (countN m (q.take (k + 1))) = (zs A).set z (((A.getD z 0 : Nat) : Int) + 1) := by
          rw [hsn]; simp only [zs, List.map_set, Int.natCast_add]; rfl
        rw [e]; exact OwnInts.set (OwnInts.upx ho (Below.refl _ wr).drew) z _)
      have HA := Lib.hid ((ha.out.trans (Alters.of_below (S := fun z => z = M) ((Below.refl _ wr).drew))).trans (alters_cell wr.drew M z (.int .i64 (((A.getD z 0 : Nat) : Int) + 1))))
      generalize A.getD z 0 = y1 at *
      have hMlt : M < wr.heap.size := World.block_lt_of_cell? _ _ cx
      have t1 : (0 : Int) ≤ (z : Int) := by omega
      have t2 : (z : Int) < (m : Int) := by omega
      have t3 : (0 : Int) ≤ (k : Int) := by omega
      have t4 : (k : Int) < (q.length : Int) := by omega
      have t5 : IntKind.i64.wrap ((y1 : Int) + 1) = (y1 : Int) + 1 := IntWalk.i64_in _ (by omega)
      have t6 : decide ((k : Int) < (q.length : Int)) = true := by simp; omega
      clear ho ha hsn hlen hc5 hI4 hMr hQr
      go_upto_region 6 with (fail)
      refine wp_region_T (S := fun W => W.cell? ⟨B, 0, none⟩ = some (.slice (some ⟨M, 0, none⟩) m m) ∧ W.cell? ⟨x + 1, 0, none⟩ = some (.slice (some ⟨bb, off, none⟩) q.length c) ∧ W.cell? ⟨bb, off + k, none⟩ = some (.int .i64 (z : Int)) ∧ W.cell? ⟨M, z, none⟩ = some (.int .i64 (y1 : Int))) 11 (by kernel_rfl) ?_
      have hS : wr.drew.cell? ⟨B, 0, none⟩ = some (.slice (some ⟨M, 0, none⟩) m m) ∧ wr.drew.cell? ⟨x + 1, 0, none⟩ = some (.slice (some ⟨bb, off, none⟩) q.length c) ∧ wr.drew.cell? ⟨bb, off + k, none⟩ = some (.int .i64 (z : Int)) ∧ wr.drew.cell? ⟨M, z, none⟩ = some (.int .i64 (y1 : Int)) := ⟨e0, k0, hc, cx⟩
      have fx2 : wr.drew.frozen? ⟨M, z, none⟩ = false := fx
      have cx2 := hS.2.2.2
      have lM2 : M < wr.drew.heap.size := hMlt
      generalize wr.drew = wD at *
      refine TT 0 ?_
      (try simp only [pS])
      refine TT 1 ?_
      (try simp only [pS])
      refine TT 2 ?_
      (try simp only [pS])
      refine TT 3 ?_
      (try simp only [pS])
      refine TT 4 ?_
      (try simp only [pS])
      refine TT 5 ?_
      (try simp only [pS])
      refine TT 6 ?_
      (try simp only [pS])
      refine TT 7 ?_
      (try simp only [pS])
      refine TT 8 ?_
      (try simp only [pS])
      refine TT 9 ?_
      (try simp only [pS])
      refine TT 10 ?_
      (try simp only [pS])
      refine wpT_ready (rs := [11]) (by kernel_rfl) (by simp) ?_
      refine AT (i := 11) (fun K hK => ?_) AllT.nil
      go_simp
      refine hK.out _ _ (fun h => absurd rfl h) ?_
      refine wpT_done (by kernel_rfl) ?_ _
      clear hK K
      go_wp2
      go_roundw
      case rel => exact ⟨k + 1, by omega, by go_num, HSN, HA⟩
      case measure => simp [RowKit.intOf]; omega
    · obtain rfl : k = q.length := by omega
      rw [List.take_length] at ho
      have o2 := own_row (cs := #[.slice (some ⟨M, 0, none⟩) m m, .slice (some ⟨g0, 0, none⟩) h0.length d0, .slice (some ⟨g1, 0, none⟩) h1.length d1, .int .i64 rg, .int .i64 sd]) (OwnInts.mono ho.out (show x ≤ w3.heap.size by omega)) (((ha.out.block (x + 2) (by have := bx_lt HR4.out; omega) (by omega)).trans HR4.out))
      have hRr := (ha.out.block (x + 2) (by have := bx_lt HR4.out; omega) (by omega)).trans HR4.out
      have o3 : OwnInts w0.heap.size wr (.slice (some ⟨g0, 0, none⟩) h0.length d0) h0 := OwnInts.alters HO4.out.h0 ha.out (fun z hz hv => by
        have e : z = M := hz
        have e2 : z = g0 := by simpa [Value.ownBlock] using hv
        omega)
      have o4 : OwnInts w0.heap.size wr (.slice (some ⟨g1, 0, none⟩) h1.length d1) h1 := OwnInts.alters HO4.out.h1 ha.out (fun z hz hv => by
        have e : z = M := hz
        have e2 : z = g1 := by simpa [Value.ownBlock] using hv
        omega)
      have o5 := own_row (cs := #[.slice (some ⟨M, 0, none⟩) m m, .slice (some ⟨g0, 0, none⟩) h0.length d0, .slice (some ⟨g1, 0, none⟩) h1.length d1, .int .i64 rg, .int .i64 sd]) (OwnInts.mono o3 (show x ≤ w0.heap.size by omega)) hRr
      have o6 := own_row (cs := #[.slice (some ⟨M, 0, none⟩) m m, .slice (some ⟨g0, 0, none⟩) h0.length d0, .slice (some ⟨g1, 0, none⟩) h1.length d1, .int .i64 rg, .int .i64 sd]) (OwnInts.mono o4 (show x ≤ w0.heap.size by omega)) hRr
      have hst := setRow_heap wr (x + 2) _ #[.slice (some ⟨M, 0, none⟩) m m, .slice (some ⟨g0, 0, none⟩) h0.length d0, .slice (some ⟨g1, 0, none⟩) h1.length d1, .int .i64 rg, .int .i64 sd] _ _ hRr
      have hBr := HB4.out.trans (ha.out.below (by omega) (fun z hz => by have e : z = M := hz; omega))
      have hBf := hBr.trans ((setRow_alt wr (x + 2) #[.slice (some ⟨M, 0, none⟩) m m, .slice (some ⟨g0, 0, none⟩) h0.length d0, .slice (some ⟨g1, 0, none⟩) h1.length d1, .int .i64 rg, .int .i64 sd]).below (by have := bx_lt hRr; omega) (fun z hz => by have e : z = x + 2 := hz; omega))
      have HF := Lib.hid (And.intro o2 (And.intro o5 (And.intro o6 hBf)))
      have t6 : decide ((q.length : Int) < (q.length : Int)) = false := by simp
      clear ho ha hBr hBf o2 o3 o4 o5 o6 hQr
      go_wp2_with (first | (refine wpList_load_row rfl 39 (.tmp 6) rfl B rfl 39 _ (0, 0) _ hMr Try.underlying39 rfl info_mat ?_) | (refine wpList_store_row rfl 39 (.tmp 4) (.tmp 41) rfl (x + 2) #[.slice (some ⟨M, 0, none⟩) m m, .slice (some ⟨g0, 0, none⟩) h0.length d0, .slice (some ⟨g1, 0, none⟩) h1.length d1, .int .i64 rg, .int .i64 sd] rfl rfl 39 _ hRr info_mat rfl (by simp [Value.oneCell']) ?_))
      generalize wr.setRow (x + 2) #[.slice (some ⟨M, 0, none⟩) m m, .slice (some ⟨g0, 0, none⟩) h0.length d0, .slice (some ⟨g1, 0, none⟩) h1.length d1, .int .i64 rg, .int .i64 sd] = w9 at *
      refine bodyPost_ret_by (v := .agg #[.slice (some ⟨M, 0, none⟩) m m, .slice (some ⟨g0, 0, none⟩) h0.length d0, .slice (some ⟨g1, 0, none⟩) h1.length d1, .int .i64 rg, .int .i64 sd]) (results_cell_row rfl _ _ (x + 2) 39 _ (0, 0) _ rfl hst Try.underlying39 rfl info_mat) rfl ?_
      obtain ⟨f1, f2, f3, f4⟩ := HF.out
      have hlm : (zs (countN m q)).length = m := by rw [zs_len, countN_len]
      rw [← EX.out]
      refine ⟨some ⟨M, 0, none⟩, some ⟨g0, 0, none⟩, some ⟨g1, 0, none⟩, m, d0, d1, ?_, ⟨?_, f2, f3⟩, f4⟩
      · unfold matS
        dsimp only
        rw [hlm]
      · show OwnInts _ _ (.slice _ (zs (countN m q)).length m) (zs (countN m q))
        rw [hlm]; exact f1
end Go.Proofs.Ytepbmgbomdekaaa
