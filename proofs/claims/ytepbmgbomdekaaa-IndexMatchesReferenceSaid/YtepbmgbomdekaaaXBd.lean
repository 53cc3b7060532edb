/-
  A blank game of the law and a position of it.
-/
import Derived.Test.YtepbmgbomdekaaaXFld
namespace Go.Proofs.Ytepbmgbomdekaaa
open Go Go.RowKit

theorem blankK_last {nk : Nat} (h : 1 ≤ nk) : (blankK nk)[nk - 1]?.getD false = true := by
  simp [blankK, show nk - 1 < nk by omega]
  omega
/-- The kinds of a blank game lie in no box without a true value. -/
theorem keeps_far {n B nk : Nat} {W : World} {ak : Option Addr} {cs old : Array Value} {t : TypeId} (hk1 : 1 ≤ nk) (h : Keeps n W ak (blankK nk)) (hB : W.heap[B]? = some (.cells old t (0, 0))) (ht : ∀ i : Nat, old[i]? ≠ some (.bool true)) : Keeps n (W.setRow B cs) ak (blankK nk) := by
  rcases h with h | ⟨b, off, e, hb, hc⟩
  · exact .inl h
  · have hne : b ≠ B := by
      rintro rfl
      have h1 := hc (nk - 1) (by rw [blankK_len]; omega)
      rw [blankK_last hk1] at h1
      unfold World.cell? at h1
      simp [hB] at h1
      exact ht _ h1
    exact .inr ⟨b, off, e, hb, fun q hq => (World.cell?_of_block (a := ⟨b, off + q * 3 + 2, none⟩) (setRow_other W B b cs hne)).trans (hc q hq)⟩
set_option maxRecDepth 100000 in
set_option maxHeartbeats 4000000 in
theorem board_any (z0 z1 bc nk : Nat) (al : Option Addr) (cl N : Nat) (l : List Nat) (w : World) (h0 : z0 ≤ 255) (h1 : z1 ≤ 255) (hbc : bc = 1 + z0 % 64) (hnk : nk = 1 + z1 % 3) (hU : U8s N w al l) (hN : N ≤ w.heap.size) :
    Calls Try.prog 10 #[.agg #[.int .u8 (z0 : Int), .int .u8 (z1 : Int)], .slice al l.length cl] w fun e w' =>
      ∃ an at_ ak ck g g0 g1 q n, e = .returned (.tuple #[.agg #[.int .i64 (bc : Int), .slice an 1 1, .slice at_ 1 1, .slice ak nk ck, .int .i64 2, .bool false, .slice none 0 0, .int .i64 3, .int .i64 2], .agg #[.slice (some ⟨g, 0, none⟩) bc bc, .slice (some ⟨g0, 0, none⟩) nk nk, .slice (some ⟨g1, 0, none⟩) nk nk, .int .i64 1, .int .i64 0]]) ∧ n ≤ w'.heap.size ∧ Keeps n w' ak (blankK nk) ∧
        POwn w.heap.size w' (some ⟨g, 0, none⟩) (some ⟨g0, 0, none⟩) (some ⟨g1, 0, none⟩) bc nk nk ⟨zs q, List.replicate nk 0, (List.replicate nk 0).set (nk - 1) ((l.length % 9 : Nat) : Int), 1, 0⟩ ∧ (¬ g = g0 ∧ ¬ g = g1 ∧ ¬ g0 = g1) ∧ q.length = bc ∧ (∀ x ∈ q, x < 2 * nk + 1) ∧ Below w.heap.size w w' := by
  have e0 : (1 : Int) + (z0 : Int) % 64 = (bc : Int) := by rw [hbc]; omega
  have e1 : (1 : Int) + (z1 : Int) % 3 = (nk : Int) := by rw [hnk]; omega
  have hb64 : bc ≤ 64 := by omega
  have hn1 : 1 ≤ nk := by omega
  have hn3 : nk ≤ 3 := by omega
  clear hbc hnk
  obtain ⟨hb0, hX, hR, hQ, hS⟩ := three_boxes w #[.int .u8 (z0 : Int), .int .u8 (z1 : Int)] #[.int .i64 0, .slice none 0 0, .slice none 0 0, .slice none 0 0, .int .i64 0, .bool false, .slice none 0 0, .int .i64 0, .int .i64 0] #[.slice none 0 0, .slice none 0 0, .slice none 0 0, .int .i64 0, .int .i64 0] 22 35 27
  go_enter Try.func10, Try.ntmps10
  go_upto_region 1 with (fail)
  rw [show w.heap.size + 1 + 1 = w.heap.size + 2 from rfl]
  generalize ((w.alloc (.cells #[.int .u8 (z0 : Int), .int .u8 (z1 : Int)] 22)).alloc (.cells #[.int .i64 0, .slice none 0 0, .slice none 0 0, .slice none 0 0, .int .i64 0, .bool false, .slice none 0 0, .int .i64 0, .int .i64 0] 35)).alloc (.cells #[.slice none 0 0, .slice none 0 0, .slice none 0 0, .int .i64 0, .int .i64 0] 27) = w1 at *
  obtain ⟨x, hx⟩ : ∃ x, x = w.heap.size := ⟨_, rfl⟩
  have EX := Lib.hid hx
  have hU1 := hU.up hN hb0
  simp only [← hx] at hN hb0 hX hR hQ hS hU1 ⊢
  clear hx hU
  have x0 : w1.cell? ⟨x, 0, none⟩ = some (.int .u8 (z0 : Int)) := bx_cell hX 0 rfl
  have x1 : w1.cell? ⟨x, 1, none⟩ = some (.int .u8 (z1 : Int)) := bx_cell hX 1 rfl
  have lx := bx_lt hX
  have HBL := Lib.hid (blank_any bc nk w1 hb64 hn1 hn3)
  go_upto_region 2 with (go_at_call 24; refine HBL.out.mono ?_; rintro e w2 ⟨an, at_, ak, ck, rfl, hk2, hb2⟩)
  have hb3 : Below w2.heap.size w2 (w2.alloc (.cells #[.int .i64 (bc : Int), .slice an 1 1, .slice at_ 1 1, .slice ak nk ck, .int .i64 2, .bool false, .slice none 0 0, .int .i64 3, .int .i64 2] 35)) := below_alloc (Below.refl _ _) _
  have hG3 := World.alloc_heap_new w2 (.cells #[.int .i64 (bc : Int), .slice an 1 1, .slice at_ 1 1, .slice ak nk ck, .int .i64 2, .bool false, .slice none 0 0, .int .i64 3, .int .i64 2] 35)
  obtain ⟨y, hy⟩ : ∃ y, y = w2.heap.size := ⟨_, rfl⟩
  have hK3 := hk2.below hb3
  have hR3 := hp_up (hp_up hR hb2) hb3
  have hQ3 := hp_up (hp_up hQ hb2) hb3
  have hs2 := hb2.size
  have hB3 := (hb0.trans (hb2.mono (by omega))).trans (hb3.mono (by omega))
  have hU3 := hU1.up (by omega) (below_step hb2 hb3)
  generalize w2.alloc (.cells #[.int .i64 (bc : Int), .slice an 1 1, .slice at_ 1 1, .slice ak nk ck, .int .i64 2, .bool false, .slice none 0 0, .int .i64 3, .int .i64 2] 35) = w3 at *
  simp only [← hy] at hG3 hK3 hs2 ⊢
  clear HBL hk2 hb2 hb0 hX hR hQ hb3 hU1 x0 x1 hy
  have hly := bx_lt hG3
  have hN3 : N ≤ w3.heap.size := by omega
  have hd : Below w3.heap.size w3 w3.drew := (Below.refl _ _).drew
  have hUd := hU3.up hN3 hd
  have hKd := hK3.below (hd.mono (by omega))
  have hRd := hp_up hR3 hd
  have hQd := hp_up hQ3 hd
  have hBd := hB3.trans (hd.mono (by omega))
  have hNd : N ≤ w3.drew.heap.size := hN3
  have hld : y < w3.drew.heap.size := hly
  refine wp_region_held_drew (S := fun W => W.heap[y]? = some (.cells #[.int .i64 (bc : Int), .slice an 1 1, .slice at_ 1 1, .slice ak nk ck, .int .i64 2, .bool false, .slice none 0 0, .int .i64 3, .int .i64 2] 35 (0, 0))) (by kernel_rfl) hG3 (fun hS9 => ?_)
  clear hU3 hK3 hR3 hQ3 hB3 hd hN3 hly
  generalize w3.drew = wD at *
  refine TX 0 (YL rfl 35 _ rfl y 0 rfl _ [.int .i64 (bc : Int), .slice an 1 1, .slice at_ 1 1, .slice ak nk ck, .int .i64 2, .bool false, .slice none 0 0, .int .i64 3, .int .i64 2] _ _ (fun _ h => h) rfl Try.underlying35 rfl info_game) ?_
  (try simp only [pS])
  refine TX 1 (YL rfl 35 _ rfl y 0 rfl _ [.int .i64 (bc : Int), .slice an 1 1, .slice at_ 1 1, .slice ak nk ck, .int .i64 2, .bool false, .slice none 0 0, .int .i64 3, .int .i64 2] _ _ (fun _ h => h) rfl Try.underlying35 rfl info_game) ?_
  (try simp only [pS])
  refine TK 2 ?_
  (try simp only [pS])
  have HF := Lib.hid (filled_any bc nk an at_ ak al ck cl N l wD hb64 hn1 hn3 hUd hNd)
  refine wpAnyH_ready (rs := [3]) (by kernel_rfl) (by simp) ?_
  refine AC (i := 3) (fun K hK => ?_) AllReadyH.nil
  refine step_call_h rfl 25 _ _ #[.agg #[.int .i64 (bc : Int), .slice an 1 1, .slice at_ 1 1, .slice ak nk ck, .int .i64 2, .bool false, .slice none 0 0, .int .i64 3, .int .i64 2], .slice al l.length cl] rfl rfl (enters_of Try.func25 (by kernel_rfl) rfl) (HF.out.mono ?_)
  rintro e w4 ⟨g, g0, g1, q, rfl, hPO, hap, hql, hqm, hb4⟩
  refine ⟨_, rfl, hK.out _ _ (hp_up hS9 hb4) (fun hS4 => ?_)⟩
  clear hK K HF
  have hPV : PosV (some ⟨g, 0, none⟩) (some ⟨g0, 0, none⟩) (some ⟨g1, 0, none⟩) bc nk nk ⟨zs q, List.replicate nk 0, (List.replicate nk 0).set (nk - 1) ((l.length % 9 : Nat) : Int), 1, 0⟩ = .agg #[.slice (some ⟨g, 0, none⟩) bc bc, .slice (some ⟨g0, 0, none⟩) nk nk, .slice (some ⟨g1, 0, none⟩) nk nk, .int .i64 1, .int .i64 0] := by
    unfold PosV
    dsimp only
    rw [zs_len, hql, List.length_replicate, List.length_set, List.length_replicate]
  rw [hPV]
  clear hPV
  (try simp only [pS])
  have hK4 := hKd.below (hb4.mono (by omega))
  have hR4 := hp_up hRd hb4
  have hQ4 := hp_up hQd hb4
  have hB4 := hBd.trans (hb4.mono (by omega))
  have hs4 := hb4.size
  have hlQ := bx_lt hQd
  clear hKd hRd hQd hBd hUd hS9 hb4
  refine wpAnyH_ready (rs := [4]) (by kernel_rfl) (by simp) ?_
  refine AC (i := 4) (fun K hK => ?_) AllReadyH.nil
  refine step_store_rw rfl 35 _ _ rfl (x + 1) #[.int .i64 (bc : Int), .slice an 1 1, .slice at_ 1 1, .slice ak nk ck, .int .i64 2, .bool false, .slice none 0 0, .int .i64 3, .int .i64 2] rfl rfl 35 _ hR4 info_game rfl (by simp [Value.oneCell']) ?_
  have a5 := setRow_alt w4 (x + 1) #[.int .i64 (bc : Int), .slice an 1 1, .slice at_ 1 1, .slice ak nk ck, .int .i64 2, .bool false, .slice none 0 0, .int .i64 3, .int .i64 2]
  have hP5 := hPO.row (B := x + 1) (cs := #[.int .i64 (bc : Int), .slice an 1 1, .slice at_ 1 1, .slice ak nk ck, .int .i64 2, .bool false, .slice none 0 0, .int .i64 3, .int .i64 2]) hR4 (by decide)
  have hK5 := keeps_far (B := x + 1) (cs := #[.int .i64 (bc : Int), .slice an 1 1, .slice at_ 1 1, .slice ak nk ck, .int .i64 2, .bool false, .slice none 0 0, .int .i64 3, .int .i64 2]) hn1 hK4 hR4 (by intro i; rcases i with _ | _ | _ | _ | _ | _ | _ | _ | _ | i <;> simp)
  have hR5 := setRow_heap w4 (x + 1) _ #[.int .i64 (bc : Int), .slice an 1 1, .slice at_ 1 1, .slice ak nk ck, .int .i64 2, .bool false, .slice none 0 0, .int .i64 3, .int .i64 2] _ _ hR4
  have hQ5 := (setRow_other w4 (x + 1) (x + 2) #[.int .i64 (bc : Int), .slice an 1 1, .slice at_ 1 1, .slice ak nk ck, .int .i64 2, .bool false, .slice none 0 0, .int .i64 3, .int .i64 2] (by omega)).trans hQ4
  have hS5 := (setRow_other w4 (x + 1) y #[.int .i64 (bc : Int), .slice an 1 1, .slice at_ 1 1, .slice ak nk ck, .int .i64 2, .bool false, .slice none 0 0, .int .i64 3, .int .i64 2] (by omega)).trans hS4
  have hB5 := hB4.trans (a5.below (by omega) (fun z hz => by have e : z = x + 1 := hz; omega))
  have hs5 : (w4.setRow (x + 1) #[.int .i64 (bc : Int), .slice an 1 1, .slice at_ 1 1, .slice ak nk ck, .int .i64 2, .bool false, .slice none 0 0, .int .i64 3, .int .i64 2]).heap.size = w4.heap.size := size_setRow _ _ _
  refine hK.out _ _ hS5 (fun _ => ?_)
  clear hK K hPO hK4 hR4 hQ4 hS4 hB4 a5
  generalize w4.setRow (x + 1) #[.int .i64 (bc : Int), .slice an 1 1, .slice at_ 1 1, .slice ak nk ck, .int .i64 2, .bool false, .slice none 0 0, .int .i64 3, .int .i64 2] = w5 at *
  (try simp only [pS])
  refine wpAnyH_ready (rs := [5]) (by kernel_rfl) (by simp) ?_
  refine AC (i := 5) (fun K hK => ?_) AllReadyH.nil
  refine step_store_rw rfl 27 _ _ rfl (x + 2) #[.slice (some ⟨g, 0, none⟩) bc bc, .slice (some ⟨g0, 0, none⟩) nk nk, .slice (some ⟨g1, 0, none⟩) nk nk, .int .i64 1, .int .i64 0] rfl rfl 27 _ hQ5 info_pos rfl (by simp [Value.oneCell']) ?_
  have a6 := setRow_alt w5 (x + 2) #[.slice (some ⟨g, 0, none⟩) bc bc, .slice (some ⟨g0, 0, none⟩) nk nk, .slice (some ⟨g1, 0, none⟩) nk nk, .int .i64 1, .int .i64 0]
  have hP6 := hP5.row (B := x + 2) (cs := #[.slice (some ⟨g, 0, none⟩) bc bc, .slice (some ⟨g0, 0, none⟩) nk nk, .slice (some ⟨g1, 0, none⟩) nk nk, .int .i64 1, .int .i64 0]) hQ5 (by decide)
  have hK6 := keeps_far (B := x + 2) (cs := #[.slice (some ⟨g, 0, none⟩) bc bc, .slice (some ⟨g0, 0, none⟩) nk nk, .slice (some ⟨g1, 0, none⟩) nk nk, .int .i64 1, .int .i64 0]) hn1 hK5 hQ5 (by intro i; rcases i with _ | _ | _ | _ | _ | i <;> simp)
  have hQ6 := setRow_heap w5 (x + 2) _ #[.slice (some ⟨g, 0, none⟩) bc bc, .slice (some ⟨g0, 0, none⟩) nk nk, .slice (some ⟨g1, 0, none⟩) nk nk, .int .i64 1, .int .i64 0] _ _ hQ5
  have hR6 := (setRow_other w5 (x + 2) (x + 1) #[.slice (some ⟨g, 0, none⟩) bc bc, .slice (some ⟨g0, 0, none⟩) nk nk, .slice (some ⟨g1, 0, none⟩) nk nk, .int .i64 1, .int .i64 0] (by omega)).trans hR5
  have hS6 := (setRow_other w5 (x + 2) y #[.slice (some ⟨g, 0, none⟩) bc bc, .slice (some ⟨g0, 0, none⟩) nk nk, .slice (some ⟨g1, 0, none⟩) nk nk, .int .i64 1, .int .i64 0] (by omega)).trans hS5
  have hB6 := hB5.trans (a6.below (by omega) (fun z hz => by have e : z = x + 2 := hz; omega))
  have hs6 : (w5.setRow (x + 2) #[.slice (some ⟨g, 0, none⟩) bc bc, .slice (some ⟨g0, 0, none⟩) nk nk, .slice (some ⟨g1, 0, none⟩) nk nk, .int .i64 1, .int .i64 0]).heap.size = w5.heap.size := size_setRow _ _ _
  refine hK.out _ _ hS6 (fun _ => ?_)
  clear hK K hP5 hK5 hR5 hQ5 hS5 hB5 a6
  generalize w5.setRow (x + 2) #[.slice (some ⟨g, 0, none⟩) bc bc, .slice (some ⟨g0, 0, none⟩) nk nk, .slice (some ⟨g1, 0, none⟩) nk nk, .int .i64 1, .int .i64 0] = w6 at *
  refine wpAnyH_done (by kernel_rfl) ?_ _
  go_wp2
  refine bodyPost_ret (results_cc rfl _ _ _ ⟨x + 1, 0, none⟩ ⟨x + 2, 0, none⟩ _ _ rfl (run_loadVar_row w6 (x + 1) 35 35 _ (0, 0) _ hR6 Try.underlying35 rfl info_game) rfl (run_loadVar_row w6 (x + 2) 27 27 _ (0, 0) _ hQ6 Try.underlying27 rfl info_pos)) rfl ?_
  have hxw := EX.out
  refine ⟨an, at_, ak, ck, g, g0, g1, q, y, rfl, by omega, hK6, ?_, hap, hql, hqm, by rw [← hxw]; exact hB6⟩
  exact ⟨OwnInts.mono hP6.cells (by omega), OwnInts.mono hP6.h0 (by omega), OwnInts.mono hP6.h1 (by omega)⟩
end Go.Proofs.Ytepbmgbomdekaaa
