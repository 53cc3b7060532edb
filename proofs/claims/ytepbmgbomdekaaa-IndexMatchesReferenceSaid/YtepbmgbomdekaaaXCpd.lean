/-
  R5.Copied.
-/
import Derived.Test.YtepbmgbomdekaaaXCop
namespace Go.Proofs.Ytepbmgbomdekaaa
open Go Go.RowKit

set_option maxRecDepth 100000 in
set_option maxHeartbeats 4000000 in
theorem rCopied_any (p : PosS) (a a0 a1 : Option Addr) (c c0 c1 N : Nat) (w : World) (p1 : 1 ≤ p.cells.length) (p2 : p.cells.length ≤ 1000) (q1 : 1 ≤ p.h0.length) (q2 : p.h0.length ≤ 1000) (r1 : 1 ≤ p.h1.length) (r2 : p.h1.length ≤ 1000) (hN : N ≤ w.heap.size) (hP : PosIn N w a a0 a1 p) :
    Calls Try.prog 23 #[PosV a a0 a1 c c0 c1 p] w fun e w' => ∃ g g0 g1 d d0 d1, e = .returned (PosV (some ⟨g, 0, none⟩) (some ⟨g0, 0, none⟩) (some ⟨g1, 0, none⟩) d d0 d1 p) ∧ POwn w.heap.size w' (some ⟨g, 0, none⟩) (some ⟨g0, 0, none⟩) (some ⟨g1, 0, none⟩) d d0 d1 p ∧ (¬ g = g0 ∧ ¬ g = g1 ∧ ¬ g0 = g1) ∧ Below w.heap.size w w' := by
  obtain ⟨hb0, hX, hR, hS⟩ := two_boxes w #[.slice a p.cells.length c, .slice a0 p.h0.length c0, .slice a1 p.h1.length c1, .int .i64 p.rights, .int .i64 p.side] #[.slice none 0 0, .slice none 0 0, .slice none 0 0, .int .i64 0, .int .i64 0] 27 27
  have hP0 := hP.up hN hb0
  have HC := Lib.hid (rcopied_any p a a0 a1 c c0 c1 N _ p1 p2 q1 q2 r1 r2 (Nat.le_trans hN hb0.size) hP0)
  unfold PosV at *
  go_enter Try.func23, Try.ntmps23
  go_upto_region 1 with (fail)
  generalize (w.alloc (.cells #[.slice a p.cells.length c, .slice a0 p.h0.length c0, .slice a1 p.h1.length c1, .int .i64 p.rights, .int .i64 p.side] 27)).alloc (.cells #[.slice none 0 0, .slice none 0 0, .slice none 0 0, .int .i64 0, .int .i64 0] 27) = w0 at *
  have hS2 : w.heap.size + 2 ≤ w0.heap.size := by omega
  clear hS
  go_wp2_with (first | (refine wpList_load_row rfl 27 (.tmp 1) rfl w.heap.size rfl 27 _ (0, 0) _ hX Try.underlying27 rfl info_pos ?_) | (go_at_call 40; refine HC.out.mono ?_; rintro e w1 ⟨g, g0, g1, d, d0, d1, rfl, hO, hap, hb1⟩; have hR1 := hp_up hR hb1) | (refine wpList_store_row rfl 27 (.tmp 2) (.tmp 4) rfl (w.heap.size + 1) #[.slice (some ⟨g, 0, none⟩) p.cells.length d, .slice (some ⟨g0, 0, none⟩) p.h0.length d0, .slice (some ⟨g1, 0, none⟩) p.h1.length d1, .int .i64 p.rights, .int .i64 p.side] rfl rfl 27 _ hR1 info_pos rfl (by simp [Value.oneCell']) ?_))
  have hO2 := hO.row (B := w.heap.size + 1) (cs := #[.slice (some ⟨g, 0, none⟩) p.cells.length d, .slice (some ⟨g0, 0, none⟩) p.h0.length d0, .slice (some ⟨g1, 0, none⟩) p.h1.length d1, .int .i64 p.rights, .int .i64 p.side]) hR1 (by decide)
  have hst := setRow_heap w1 (w.heap.size + 1) _ #[.slice (some ⟨g, 0, none⟩) p.cells.length d, .slice (some ⟨g0, 0, none⟩) p.h0.length d0, .slice (some ⟨g1, 0, none⟩) p.h1.length d1, .int .i64 p.rights, .int .i64 p.side] _ _ hR1
  have hsa := setRow_alt w1 (w.heap.size + 1) #[.slice (some ⟨g, 0, none⟩) p.cells.length d, .slice (some ⟨g0, 0, none⟩) p.h0.length d0, .slice (some ⟨g1, 0, none⟩) p.h1.length d1, .int .i64 p.rights, .int .i64 p.side]
  have hF := (below_step hb0 hb1).trans (hsa.below (show w.heap.size ≤ w1.heap.size by have := hb1.size; omega) (fun z hz => by have e : z = w.heap.size + 1 := hz; omega))
  generalize w1.setRow (w.heap.size + 1) #[.slice (some ⟨g, 0, none⟩) p.cells.length d, .slice (some ⟨g0, 0, none⟩) p.h0.length d0, .slice (some ⟨g1, 0, none⟩) p.h1.length d1, .int .i64 p.rights, .int .i64 p.side] = w4 at *
  refine bodyPost_ret_by (v := .agg #[.slice (some ⟨g, 0, none⟩) p.cells.length d, .slice (some ⟨g0, 0, none⟩) p.h0.length d0, .slice (some ⟨g1, 0, none⟩) p.h1.length d1, .int .i64 p.rights, .int .i64 p.side]) (results_cell_row rfl _ _ (w.heap.size + 1) 27 _ (0, 0) _ rfl hst Try.underlying27 rfl info_pos) rfl ?_
  exact ⟨g, g0, g1, d, d0, d1, rfl, ⟨OwnInts.mono hO2.cells (by omega), OwnInts.mono hO2.h0 (by omega), OwnInts.mono hO2.h1 (by omega)⟩, hap, hF⟩
end Go.Proofs.Ytepbmgbomdekaaa
