/-
  A position of a blank game, whose cells numbers describe.
-/
import Derived.Test.YtepbmgbomdekaaaXLift
namespace Go.Proofs.Ytepbmgbomdekaaa
open Go Go.RowKit

/-- What a round reads. -/
structure FS (x B bb o : Nat) (u g v : Value) (W : World) : Prop where
  p0 : W.cell? ⟨B, 0, none⟩ = some u
  g3 : W.cell? ⟨x, 3, none⟩ = some g
  c : W.cell? ⟨bb, o, none⟩ = some v
theorem cell_far {W : World} {B j b o : Nat} {v u : Value} (h : W.cell? ⟨b, o, none⟩ = some u) (hb : ¬ b = B) : (W.setCell ⟨B, j, none⟩ v).cell? ⟨b, o, none⟩ = some u :=
  (World.cell?_of_block (a := ⟨b, o, none⟩) ((alters_cell W B j v).block b (World.block_lt_of_cell? _ _ h) hb)).trans h
theorem cell_up {W W' : World} {b o : Nat} {u : Value} (h : W.cell? ⟨b, o, none⟩ = some u) (hb : Below W.heap.size W W') : W'.cell? ⟨b, o, none⟩ = some u :=
  (hb.cell (p := ⟨b, o, none⟩) (World.block_lt_of_cell? _ _ h)).trans h
theorem own_far {n B j : Nat} {W : World} {v u : Value} {l : List Int} (h : OwnInts n W v l) (hB : B < n) : OwnInts n (W.setCell ⟨B, j, none⟩ u) v l :=
  h.alters (alters_cell W B j u) (fun k hk hv => by have e : k = B := hk; have := (World.ownsRow.lt h k hv.symm).1; omega)
theorem hands_set {wr wD wa wb : World} {B : Nat} {y0 y3 y4 u1 u2 z1 z2 : Value} {l1 l2 : List Int} (hd : Below wr.heap.size wr wD) (ba : Below wD.heap.size wD wa) (bb : Below wa.heap.size wa wb) (hl : B < wr.heap.size)
    (hB : wb.heap[B]? = some (.cells #[y0, z1, z2, y3, y4] 27 (0, 0))) (o1 : OwnInts wr.heap.size wb u1 l1) (o2 : OwnInts wr.heap.size wb u2 l2) :
    ((wb.setCell ⟨B, 1, none⟩ u1).setCell ⟨B, 2, none⟩ u2).heap[B]? = some (.cells #[y0, u1, u2, y3, y4] 27 (0, 0)) ∧ OwnInts wr.heap.size ((wb.setCell ⟨B, 1, none⟩ u1).setCell ⟨B, 2, none⟩ u2) u1 l1 ∧ OwnInts wr.heap.size ((wb.setCell ⟨B, 1, none⟩ u1).setCell ⟨B, 2, none⟩ u2) u2 l2 ∧ Alters (fun z => z = B) wr ((wb.setCell ⟨B, 1, none⟩ u1).setCell ⟨B, 2, none⟩ u2) := by
  refine ⟨bx_set (bx_set hB 1 u1) 2 u2, own_far (own_far o1 hl) hl, own_far (own_far o2 hl) hl, ?_⟩
  exact ((Alters.of_below (below_step (below_step hd ba) bb)).trans (alters_cell wb B 1 u1)).trans (alters_cell _ B 2 u2)
attribute [local go_sem] idx_hand0 idx_hand1
set_option maxRecDepth 100000 in
set_option maxHeartbeats 4000000 in
theorem filled_any (bc nk : Nat) (an at_ ak al : Option Addr) (ck cl N : Nat) (l : List Nat) (w : World) (hbc : bc ≤ 64) (h1 : 1 ≤ nk) (h3 : nk ≤ 3) (hU : U8s N w al l) (hN : N ≤ w.heap.size) :
    Calls Try.prog 25 #[.agg #[.int .i64 (bc : Int), .slice an 1 1, .slice at_ 1 1, .slice ak nk ck, .int .i64 2, .bool false, .slice none 0 0, .int .i64 3, .int .i64 2], .slice al l.length cl] w fun e w' =>
      ∃ g g0 g1 q, e = .returned (PosV (some ⟨g, 0, none⟩) (some ⟨g0, 0, none⟩) (some ⟨g1, 0, none⟩) bc nk nk ⟨zs q, List.replicate nk 0, (List.replicate nk 0).set (nk - 1) ((l.length % 9 : Nat) : Int), 1, 0⟩) ∧
        POwn w.heap.size w' (some ⟨g, 0, none⟩) (some ⟨g0, 0, none⟩) (some ⟨g1, 0, none⟩) bc nk nk ⟨zs q, List.replicate nk 0, (List.replicate nk 0).set (nk - 1) ((l.length % 9 : Nat) : Int), 1, 0⟩ ∧ (¬ g = g0 ∧ ¬ g = g1 ∧ ¬ g0 = g1) ∧
        q.length = bc ∧ (∀ x ∈ q, x < 2 * nk + 1) ∧ Below w.heap.size w w' := by
  have hU8 : ∀ j : Nat, (l[j]? : Option Nat).getD 0 ≤ 255 := hU.1
  go_enter Try.func25, Try.ntmps25
  go_upto_region 2 with (refine wpList_mk rfl _ _ rfl bc rfl rfl (by omega) ?_; intro w5 hown5 hb5)
  obtain ⟨x, hx⟩ : ∃ x, x = w.heap.size := ⟨_, rfl⟩
  have HX := Lib.hid hx
  obtain ⟨hb1, hG, hR, hS⟩ := two_boxes w #[.int .i64 (bc : Int), .slice an 1 1, .slice at_ 1 1, .slice ak nk ck, .int .i64 2, .bool false, .slice none 0 0, .int .i64 3, .int .i64 2] #[.slice none 0 0, .slice none 0 0, .slice none 0 0, .int .i64 0, .int .i64 0] 35 27
  generalize (w.alloc (.cells #[.int .i64 (bc : Int), .slice an 1 1, .slice at_ 1 1, .slice ak nk ck, .int .i64 2, .bool false, .slice none 0 0, .int .i64 3, .int .i64 2] 35)).alloc (.cells #[.slice none 0 0, .slice none 0 0, .slice none 0 0, .int .i64 0, .int .i64 0] 27) = w1 at *
  rw [hS] at hown5
  have hB5 := below_step hb1 hb5
  have hG5 := hp_up hG hb5
  have hR5 := hp_up hR hb5
  have hs5 : w.heap.size + 2 < w5.heap.size := (own_at hown5).2
  have hb6 : Below w5.heap.size w5 (w5.alloc (.cells #[.slice (some ⟨w.heap.size + 2, 0, none⟩) bc bc, .slice none 0 0, .slice none 0 0, .int .i64 1, .int .i64 0] 27)) := below_alloc (Below.refl _ _) _
  have hP6 := World.alloc_heap_new w5 (.cells #[.slice (some ⟨w.heap.size + 2, 0, none⟩) bc bc, .slice none 0 0, .slice none 0 0, .int .i64 1, .int .i64 0] 27)
  rw [show w.heap.size + 1 + 1 = w.heap.size + 2 from rfl]
  generalize w5.alloc (.cells #[.slice (some ⟨w.heap.size + 2, 0, none⟩) bc bc, .slice none 0 0, .slice none 0 0, .int .i64 1, .int .i64 0] 27) = w6 at *
  have hU6 := hU.up hN (below_step hB5 hb6)
  have hO6 := hown5.upx hb6
  have hG6 := hp_up hG5 hb6
  have hR6 := hp_up hR5 hb6
  have hB6 := below_step hB5 hb6
  simp only [← hx] at hN hP6 hU6 hO6 hG6 hR6 hB6 hs5 ⊢
  obtain ⟨B, hB⟩ : ∃ B, B = w5.heap.size := ⟨_, rfl⟩
  simp only [← hB] at hP6 hs5 ⊢
  clear hB hx hb1 hG hR hS hown5 hb5 hB5 hG5 hR5 hb6 hU
  have lP := bx_lt hP6
  have HG6 := Lib.hid hG6
  have HR6 := Lib.hid hR6
  have HP6 := Lib.hid hP6
  have HB6 := Lib.hid hB6
  have HU6 := Lib.hid hU6
  clear hG6 hR6 hP6 hB6 hU6
  go_wp2
  go_loopw [6] (fun i wr => ∃ (k : Nat) (q : List Nat), k ≤ bc ∧ i = .int .i64 k ∧ q.length = bc ∧ Hid (∀ y ∈ q, y < 2 * nk + 1) ∧ Hid (OwnInts (x + 2) wr (.slice (some ⟨x + 2, 0, none⟩) bc bc) (zs q)) ∧ Hid (Alters (fun z => z = x + 2) w6 wr)) (fun i _ => bc - (intOf i).toNat)
  case atStart => exact ⟨0, List.replicate bc 0, Nat.zero_le _, rfl, by simp, Lib.hid (by intro y hy; have := List.eq_of_mem_replicate hy; omega), Lib.hid (by simpa [zs] using hO6), Lib.hid (Alters.refl _ _)⟩
  case round =>
    clear hO6
    obtain ⟨k, q, hk, rfl, hL, HQ, HO, HA⟩ := hrel
    have hPr := (HA.out.block B (by omega) (by omega)).trans HP6.out
    have p0 : wr.cell? ⟨B, 0, none⟩ = some (.slice (some ⟨x + 2, 0, none⟩) bc bc) := bx_cell hPr 0 rfl
    have lB := bx_lt hPr
    by_cases hlt : k < bc ∧ k < l.length
    · obtain ⟨hk1, hk2⟩ := hlt
      have hU := HU6.out.below (show Below N w6 wr from HA.out.below (by omega) (fun z hz => by have e : z = x + 2 := hz; omega))
      obtain ⟨bb, off, rfl, hbN, hc⟩ := hU.at_ hk2
      have hv := hU8 k
      generalize (l[k]? : Option Nat).getD 0 = v at *
      have hGr := (HA.out.block x (by omega) (by omega)).trans HG6.out
      have g3 : wr.cell? ⟨x, 3, none⟩ = some (.slice ak nk ck) := bx_cell hGr 3 rfl
      have t1 : decide ((k : Int) < (bc : Int)) = true := by simp; omega
      have t2 : decide ((k : Int) < (l.length : Int)) = true := by simp; omega
      have lm := Nat.mod_lt v (show 0 < 2 * nk + 1 by omega)
      have em : ((v : Nat) : Int).tmod (2 * (nk : Int) + 1) = ((v % (2 * nk + 1) : Nat) : Int) := rfl
      obtain ⟨cM, fM⟩ := HO.out.cellAt (j := k) (by rw [zs_len, hL]; exact hk1)
      have HO2 := Lib.hid (show OwnInts (x + 2) (wr.setCell ⟨x + 2, k, none⟩ (.int .i64 ((v % (2 * nk + 1) : Nat) : Int))) (.slice (some ⟨x + 2, 0, none⟩) bc bc) (zs (q.set k (v % (2 * nk + 1)))) by
        have e : zs (q.set k (v % (2 * nk + 1))) = (zs q).set k ((v % (2 * nk + 1) : Nat) : Int) := by simp [zs]
        rw [e]; exact HO.out.set k _)
      have HA2 := Lib.hid ((HA.out.trans (Alters.of_below (S := fun z => z = x + 2) ((Below.refl _ wr).drew))).trans (alters_cell wr.drew (x + 2) k (.int .i64 ((v % (2 * nk + 1) : Nat) : Int))))
      have HL2 := Lib.hid (show (q.set k (v % (2 * nk + 1))).length = bc by rw [List.length_set]; exact hL)
      have HQ2 := Lib.hid (show ∀ y ∈ q.set k (v % (2 * nk + 1)), y < 2 * nk + 1 from fun y hy => by
        rcases List.mem_or_eq_of_mem_set hy with h | h
        · exact HQ.out y h
        · omega)
      generalize v % (2 * nk + 1) = m at *
      have i1 : IntKind.i64.wrap (v : Int) = (v : Int) := IntWalk.i64_in _ (by omega)
      have lr1 := bx_lt hGr
      have lr3 : x + 2 < wr.heap.size := World.block_lt_of_cell? _ _ cM
      clear hPr hGr HO HA hU HQ hL
      have hbx : ¬ bb = x + 2 := by omega
      have tk : (0 : Int) ≤ (k : Int) := by omega
      have tl : (k : Int) < (l.length : Int) := by omega
      have tb : (k : Int) < (bc : Int) := by omega
      have i5 : IntKind.i64.wrap (2 * (nk : Int)) = 2 * (nk : Int) := IntWalk.i64_in _ (by omega)
      have i6 : IntKind.i64.wrap (2 * (nk : Int) + 1) = 2 * (nk : Int) + 1 := IntWalk.i64_in _ (by omega)
      have i7 : IntKind.i64.wrap (m : Int) = (m : Int) := IntWalk.i64_in _ (by omega)
      have i8 : ¬ (2 * (nk : Int) + 1 = 0) := by omega
      go_upto_region 5 with (fail)
      refine wp_region_held_drew (S := FS x B bb (off + k) (.slice (some ⟨x + 2, 0, none⟩) bc bc) (.slice ak nk ck) (.int .u8 (v : Int))) (by kernel_rfl) ⟨p0, g3, hc⟩ (fun hS => ?_)
      refine TC 0 ?_
      (try simp only [pS])
      refine TC 1 ?_
      (try simp only [pS])
      refine TC 2 ?_
      (try simp only [pS])
      refine TC 3 ?_
      (try simp only [pS])
      refine TC 4 ?_
      (try simp only [pS])
      refine TC 5 ?_
      (try simp only [pS])
      refine TC 6 ?_
      (try simp only [pS])
      refine TC 7 ?_
      (try simp only [pS])
      refine TC 8 ?_
      (try simp only [pS])
      refine TC 9 ?_
      (try simp only [pS])
      refine TC 10 ?_
      (try simp only [pS])
      refine TC 11 ?_
      (try simp only [pS])
      refine TC 12 ?_
      (try simp only [pS])
      refine TC 13 ?_
      (try simp only [pS])
      refine TC 14 ?_
      (try simp only [pS])
      refine wpAnyH_ready (rs := [15]) (by kernel_rfl) (by simp) ?_
      refine AC (i := 15) (fun K hK => ?_) AllReadyH.nil
      have cM2 : wr.drew.cell? ⟨x + 2, k, none⟩ = _ := cM
      have fM2 : wr.drew.frozen? ⟨x + 2, k, none⟩ = _ := fM
      go_simp
      refine hK.out _ _ ⟨cell_far hS.p0 (by omega), cell_far hS.g3 (by omega), cell_far hS.c hbx⟩ (fun _ => ?_)
      refine wpAnyH_done (by kernel_rfl) ?_ _
      have HO3 := Lib.hid (show OwnInts (x + 2) (wr.drew.setCell ⟨x + 2, k, none⟩ (.int .i64 (m : Int))) (.slice (some ⟨x + 2, 0, none⟩) bc bc) (zs (q.set k m)) from HO2.out)
      have HA3 := Lib.hid (show Alters (fun z => z = x + 2) w6 (wr.drew.setCell ⟨x + 2, k, none⟩ (.int .i64 (m : Int))) from HA2.out)
      clear hK HO2 HA2
      go_wp2
      go_roundw
      case rel => exact ⟨k + 1, q.set k m, by omega, by go_num, HL2.out, HQ2, HO3, HA3⟩
      case measure => simp [intOf]; omega
    · have hGr := (HA.out.block x (by omega) (by omega)).trans HG6.out
      have g3 : wr.cell? ⟨x, 3, none⟩ = some (.slice ak nk ck) := bx_cell hGr 3 rfl
      have p1 : wr.cell? ⟨B, 1, none⟩ = some (.slice none 0 0) := bx_cell hPr 1 rfl
      have p2 : wr.cell? ⟨B, 2, none⟩ = some (.slice none 0 0) := bx_cell hPr 2 rfl
      have f1 := bx_frozen hPr 1
      have f2 := bx_frozen hPr 2
      have lg := bx_lt hGr
      have HPr := Lib.hid hPr
      have hC : (GM wr x B 27 (.int .i64 (bc : Int)) (.slice an 1 1) (.slice at_ 1 1) (.slice ak nk ck) (.int .i64 2) (.bool false) (.slice none 0 0) (.int .i64 3) (.int .i64 2) (.slice (some ⟨x + 2, 0, none⟩) bc bc) (.slice none 0 0) (.slice none 0 0) (.int .i64 1) (.int .i64 0)) wr := GM.of (Below.refl _ _) hGr hPr
      clear hPr hGr
      go_upto_region 3 with (fail)
      go_cut [22] (fun v wx => v = .bool false ∧ wx = wr)
      case first =>
        by_cases hb : k < bc
        · have hb2 : ¬ k < l.length := fun h => hlt ⟨hb, h⟩
          go_wp2
          go_meet
          case rel => exact ⟨rfl, rfl⟩
        · go_wp2
          go_meet
          case rel => exact ⟨rfl, rfl⟩
      case rest =>
        obtain ⟨rfl, hwc⟩ := hcut
        subst hwc
        generalize wc = wr at *
        clear hlt
        go_upto_region 6 with (fail)
        go_cut [] (fun wx => ∃ g0 g1, wx.heap[B]? = some (.cells #[.slice (some ⟨x + 2, 0, none⟩) bc bc, .slice (some ⟨g0, 0, none⟩) nk nk, .slice (some ⟨g1, 0, none⟩) nk nk, .int .i64 1, .int .i64 0] 27 (0, 0)) ∧ OwnInts wr.heap.size wx (.slice (some ⟨g0, 0, none⟩) nk nk) (List.replicate nk 0) ∧ OwnInts wr.heap.size wx (.slice (some ⟨g1, 0, none⟩) nk nk) (List.replicate nk 0) ∧ ¬ g0 = g1 ∧ Alters (fun z => z = B) wr wx)
        case first =>
          clear p0 p1 p2 f1 f2 lB lg
          have hbd : Below wr.heap.size wr wr.drew := (Below.refl _ _).drew
          have hPd : wr.drew.heap[B]? = _ := HPr.out
          have lr := bx_lt HPr.out
          refine wp_region_held_drew (S := fun W => W.cell? ⟨x, 3, none⟩ = some (.slice ak nk ck)) (by kernel_rfl) g3 (fun hS => ?_)
          generalize wr.drew = wD at *
          refine TK 0 ?_
          (try simp only [pS])
          refine TK 1 ?_
          (try simp only [pS])
          refine TK 2 ?_
          (try simp only [pS])
          refine TK 4 ?_
          (try simp only [pS])
          refine TK 5 ?_
          (try simp only [pS])
          refine TK 6 ?_
          (try simp only [pS])
          refine wpAnyH_ready (rs := [3, 7]) (by kernel_rfl) (by simp) ?_
          refine AC (i := 3) (fun K hK => ?_) ?_
          · refine step_mk rfl _ _ rfl nk rfl rfl (by omega) ?_
            intro wa oa ba
            have hSa := cell_up hS ba
            refine hK.out _ _ hSa (fun _ => ?_)
            clear hK K
            (try simp only [pS])
            refine wpAnyH_ready (rs := [7]) (by kernel_rfl) (by simp) ?_
            refine AC (i := 7) (fun K hK => ?_) AllReadyH.nil
            refine step_mk rfl _ _ rfl nk rfl rfl (by omega) ?_
            intro wb ob bb
            have hSb := cell_up hSa bb
            refine hK.out _ _ hSb (fun _ => ?_)
            clear hK K
            (try simp only [pS])
            refine TK 8 ?_
            (try simp only [pS])
            refine TK 9 ?_
            (try simp only [pS])
            refine wpAnyH_ready (rs := [10]) (by kernel_rfl) (by simp) ?_
            refine AC (i := 10) (fun K hK => ?_) AllReadyH.nil
            have hPb := hp_up (hp_up hPd ba) bb
            have f1 := bx_frozen hPb 1
            have f2 := bx_frozen hPb 2
            have q1 : wb.cell? ⟨B, 1, none⟩ = some (.slice none 0 0) := bx_cell hPb 1 rfl
            have q2 : wb.cell? ⟨B, 2, none⟩ = some (.slice none 0 0) := bx_cell hPb 2 rfl
            have lb := bx_lt hPb
            have HE := Lib.hid (hands_set hbd ba bb lr hPb (((OwnInts.mono oa hbd.size).upx bb)) (OwnInts.mono ob (Nat.le_trans hbd.size ba.size)))
            have HN := Lib.hid (show ¬ wD.heap.size = wa.heap.size from by have := World.ownsRow.lt oa wD.heap.size rfl; omega)
            go_simp
            refine hK.out _ _ (cell_far (cell_far hSb (by omega)) (by omega)) (fun _ => ?_)
            refine wpAnyH_done (by kernel_rfl) ?_ _
            clear hK K
            go_wp2_with fail
            go_meet
            case rel => exact ⟨_, _, HE.out.1, HE.out.2.1, HE.out.2.2.1, HN.out, HE.out.2.2.2⟩
          refine AC (i := 7) (fun K hK => ?_) AllReadyH.nil
          · refine step_mk rfl _ _ rfl nk rfl rfl (by omega) ?_
            intro wa oa ba
            have hSa := cell_up hS ba
            refine hK.out _ _ hSa (fun _ => ?_)
            clear hK K
            (try simp only [pS])
            refine wpAnyH_ready (rs := [3]) (by kernel_rfl) (by simp) ?_
            refine AC (i := 3) (fun K hK => ?_) AllReadyH.nil
            refine step_mk rfl _ _ rfl nk rfl rfl (by omega) ?_
            intro wb ob bb
            have hSb := cell_up hSa bb
            refine hK.out _ _ hSb (fun _ => ?_)
            clear hK K
            (try simp only [pS])
            refine TK 8 ?_
            (try simp only [pS])
            refine TK 9 ?_
            (try simp only [pS])
            refine wpAnyH_ready (rs := [10]) (by kernel_rfl) (by simp) ?_
            refine AC (i := 10) (fun K hK => ?_) AllReadyH.nil
            have hPb := hp_up (hp_up hPd ba) bb
            have f1 := bx_frozen hPb 1
            have f2 := bx_frozen hPb 2
            have q1 : wb.cell? ⟨B, 1, none⟩ = some (.slice none 0 0) := bx_cell hPb 1 rfl
            have q2 : wb.cell? ⟨B, 2, none⟩ = some (.slice none 0 0) := bx_cell hPb 2 rfl
            have lb := bx_lt hPb
            have HE := Lib.hid (hands_set hbd ba bb lr hPb (OwnInts.mono ob (Nat.le_trans hbd.size ba.size)) (((OwnInts.mono oa hbd.size).upx bb)))
            have HN := Lib.hid (show ¬ wD.heap.size = wa.heap.size from by have := World.ownsRow.lt oa wD.heap.size rfl; omega)
            go_simp
            refine hK.out _ _ (cell_far (cell_far hSb (by omega)) (by omega)) (fun _ => ?_)
            refine wpAnyH_done (by kernel_rfl) ?_ _
            clear hK K
            go_wp2_with fail
            go_meet
            case rel => exact ⟨_, _, HE.out.1, HE.out.2.1, HE.out.2.2.1, fun e => HN.out e.symm, HE.out.2.2.2⟩
        case rest =>
          obtain ⟨g0, g1, hb9, o0, o1, hne, ha9⟩ := hcut
          generalize wc = w9 at *
          have lr := bx_lt HPr.out
          have l0 := World.ownsRow.lt o0 g0 rfl
          have l1 := World.ownsRow.lt o1 g1 rfl
          have hoc9 : OwnInts (x + 2) w9 (.slice (some ⟨x + 2, 0, none⟩) bc bc) (zs q) := HO.out.alters ha9 (fun z hz hv => by
            have e : z = B := hz
            have e2 : z = x + 2 := by simpa [Value.ownBlock] using hv
            omega)
          have hG9 := (ha9.block x (by omega) (by omega)).trans ((HA.out.block x (by omega) (by omega)).trans HG6.out)
          have hR9 := (ha9.block (x + 1) (by omega) (by omega)).trans ((HA.out.block (x + 1) (by omega) (by omega)).trans HR6.out)
          have hB9 : Below x w w9 := (HB6.out.trans (HA.out.below (by omega) (fun z hz => by have e : z = x + 2 := hz; omega))).trans (ha9.below (by omega) (fun z hz => by have e : z = B := hz; omega))
          have p2 : w9.cell? ⟨B, 2, none⟩ = some (.slice (some ⟨g1, 0, none⟩) nk nk) := bx_cell hb9 2 rfl
          have g3 : w9.cell? ⟨x, 3, none⟩ = some (.slice ak nk ck) := bx_cell hG9 3 rfl
          have lB9 := bx_lt hb9
          have lG9 := bx_lt hG9
          have em : ((l.length : Nat) : Int).tmod 9 = ((l.length % 9 : Nat) : Int) := rfl
          obtain ⟨h9, hh9⟩ : ∃ h9, h9 = l.length % 9 := ⟨_, rfl⟩
          have HH9 := Lib.hid hh9
          have em2 : (l.length : Int) % 9 = (h9 : Int) := by rw [hh9]; push_cast; rfl
          clear em
          have lh9 : h9 < 9 := by omega
          clear hh9
          obtain ⟨cM, fM⟩ := o1.cellAt (j := nk - 1) (by rw [List.length_replicate]; omega)
          have i1 : IntKind.i64.wrap ((nk : Int) - 1) = (nk : Int) - 1 := IntWalk.i64_in _ (by omega)
          have i2 : IntKind.i64.wrap (h9 : Int) = (h9 : Int) := IntWalk.i64_in _ (by omega)
          have t1 : (0 : Int) ≤ (nk : Int) - 1 := by omega
          have t2 : (nk : Int) - 1 < (nk : Int) := by omega
          have t3 : nk - 1 < nk := by omega
          have hoc10 : OwnInts (x + 2) (w9.setCell ⟨g1, nk - 1, none⟩ (.int .i64 (h9 : Int))) (.slice (some ⟨x + 2, 0, none⟩) bc bc) (zs q) := hoc9.alters (alters_cell w9 g1 (nk - 1) _) (fun z hz hv => by
            have e : z = g1 := hz
            have e2 : z = x + 2 := by simpa [Value.ownBlock] using hv
            omega)
          have ho10 : OwnInts wr.heap.size (w9.setCell ⟨g1, nk - 1, none⟩ (.int .i64 (h9 : Int))) (.slice (some ⟨g0, 0, none⟩) nk nk) (List.replicate nk 0) := o0.alters (alters_cell w9 g1 (nk - 1) _) (fun z hz hv => by
            have e : z = g1 := hz
            have e2 : z = g0 := by simpa [Value.ownBlock] using hv
            omega)
          have ho11 : OwnInts wr.heap.size (w9.setCell ⟨g1, nk - 1, none⟩ (.int .i64 (h9 : Int))) (.slice (some ⟨g1, 0, none⟩) nk nk) ((List.replicate nk 0).set (nk - 1) (h9 : Int)) := o1.set (nk - 1) _
          have hb10 := (hp_far w9 g1 (nk - 1) (.int .i64 (h9 : Int)) B (by omega)).trans hb9
          have hR10 := (hp_far w9 g1 (nk - 1) (.int .i64 (h9 : Int)) (x + 1) (by omega)).trans hR9
          have hB10 : Below x w (w9.setCell ⟨g1, nk - 1, none⟩ (.int .i64 (h9 : Int))) := hB9.trans ((alters_cell w9 g1 (nk - 1) _).below (by omega) (fun z hz => by have e : z = g1 := hz; omega))
          have HOC := Lib.hid (And.intro hoc10 (And.intro ho10 (And.intro ho11 (And.intro hb10 (And.intro hR10 hB10)))))
          have HLR := Lib.hid (show x ≤ wr.heap.size by omega)
          have hL0 := World.ownsRow.lt HO.out (x + 2) rfl
          clear hoc9 hoc10 ho10 ho11 hb10 hR10 hB10 hB9 hG9 hR9 hb9 o0 o1 ha9 hC p0 p1 f1 f2
          go_upto_region 8 with (fail)
          (try rw [em2])
          obtain ⟨hoc10, ho10, ho11, hb10, hR10, hB10⟩ := HOC.out
          clear HOC
          generalize w9.setCell ⟨g1, nk - 1, none⟩ (.int .i64 (h9 : Int)) = w10 at *
          have hst := setRow_heap w10 (x + 1) _ #[.slice (some ⟨x + 2, 0, none⟩) bc bc, .slice (some ⟨g0, 0, none⟩) nk nk, .slice (some ⟨g1, 0, none⟩) nk nk, .int .i64 1, .int .i64 0] _ _ hR10
          have hsa := setRow_alt w10 (x + 1) #[.slice (some ⟨x + 2, 0, none⟩) bc bc, .slice (some ⟨g0, 0, none⟩) nk nk, .slice (some ⟨g1, 0, none⟩) nk nk, .int .i64 1, .int .i64 0]
          have HF := Lib.hid (hB10.trans (hsa.below (show x ≤ w10.heap.size by have := bx_lt hR10; omega) (fun z hz => by have e : z = x + 1 := hz; omega)))
          have hzl : (zs q).length = bc := by rw [zs_len]; exact hL
          have hPO : POwn x w10 (some ⟨x + 2, 0, none⟩) (some ⟨g0, 0, none⟩) (some ⟨g1, 0, none⟩) bc nk nk ⟨zs q, List.replicate nk 0, (List.replicate nk 0).set (nk - 1) (h9 : Int), 1, 0⟩ :=
            ⟨by show OwnInts _ _ (.slice _ (zs q).length _) _; rw [hzl]; exact OwnInts.mono hoc10 (by omega), by show OwnInts _ _ (.slice _ (List.replicate nk (0 : Int)).length _) _; rw [List.length_replicate]; exact OwnInts.mono ho10 HLR.out, by show OwnInts _ _ (.slice _ ((List.replicate nk (0 : Int)).set (nk - 1) (h9 : Int)).length _) _; rw [List.length_set, List.length_replicate]; exact OwnInts.mono ho11 HLR.out⟩
          have HPO := Lib.hid (hPO.row (B := x + 1) (cs := #[.slice (some ⟨x + 2, 0, none⟩) bc bc, .slice (some ⟨g0, 0, none⟩) nk nk, .slice (some ⟨g1, 0, none⟩) nk nk, .int .i64 1, .int .i64 0]) hR10 (by decide))
          go_wp2_with (first | (refine wpList_load_row rfl 27 (.tmp 5) rfl B rfl 27 _ (0, 0) _ hb10 Try.underlying27 rfl info_pos ?_) | (refine wpList_store_row rfl 27 (.tmp 4) (.tmp 61) rfl (x + 1) #[.slice (some ⟨x + 2, 0, none⟩) bc bc, .slice (some ⟨g0, 0, none⟩) nk nk, .slice (some ⟨g1, 0, none⟩) nk nk, .int .i64 1, .int .i64 0] rfl rfl 27 _ hR10 info_pos rfl (by simp [Value.oneCell']) ?_))
          generalize w10.setRow (x + 1) #[.slice (some ⟨x + 2, 0, none⟩) bc bc, .slice (some ⟨g0, 0, none⟩) nk nk, .slice (some ⟨g1, 0, none⟩) nk nk, .int .i64 1, .int .i64 0] = w11 at *
          refine bodyPost_ret_by (v := .agg #[.slice (some ⟨x + 2, 0, none⟩) bc bc, .slice (some ⟨g0, 0, none⟩) nk nk, .slice (some ⟨g1, 0, none⟩) nk nk, .int .i64 1, .int .i64 0]) (results_cell_row rfl _ _ (x + 1) 27 _ (0, 0) _ rfl hst Try.underlying27 rfl info_pos) rfl ?_
          rw [← HX.out, ← HH9.out]
          refine ⟨_, _, _, q, ?_, HPO.out, ⟨by omega, by omega, hne⟩, hL, HQ.out, HF.out⟩
          unfold PosV
          dsimp only
          rw [hzl, List.length_replicate, List.length_set, List.length_replicate]
end Go.Proofs.Ytepbmgbomdekaaa
