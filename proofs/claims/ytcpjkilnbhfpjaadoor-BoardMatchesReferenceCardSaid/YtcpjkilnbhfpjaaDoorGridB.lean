/-
  Grid of the package board, at numbers that are refused.
-/
import Derived.Test.YtcpjkilnbhfpjaaDoorGrid
namespace Go.Proofs.YtcpjkilnbhfpjaaDoor
open Go Go.RowKit Go.Shelf

set_option maxRecDepth 100000 in
set_option maxHeartbeats 2000000 in
theorem grid_bad (W H : Int) (hW : -1000 ≤ W ∧ W ≤ 1000) (hH : -1000 ≤ H ∧ H ≤ 1000) (h : W < 1 ∨ H < 1 ∨ 64 < W * H) (w : World) :
    Calls Tryd.prog 32 #[.int .i64 W, .int .i64 H] w fun e W' => e = .returned (.tuple #[.agg #[.int .i64 0, .slice none 0 0, .slice none 0 0], .int .i64 1]) ∧ Below w.heap.size w W' := by
  obtain ⟨hW1, hW2⟩ := hW
  obtain ⟨hH1, hH2⟩ := hH
  by_cases h1 : W < 1
  · clear h
    go_enter Tryd.func32, Tryd.ntmps32
    go_wp2
    refine bodyPost_ret_by (v := .tuple #[.agg #[.int .i64 0, .slice none 0 0, .slice none 0 0], .int .i64 1]) (by rw [results_cell_tmp rfl]; go_simp) rfl ?_
    exact ⟨rfl, by first | ((repeat (first | exact Below.refl _ _ | assumption | refine below_alloc ?_ _ | refine Below.drew ?_ | refine below_drewN_ ?_ _ | refine below_step ?_ (by assumption))); done) | exact Below.setCell (Below.setCell (Below.setCell (below_alloc (Below.refl _ _) _) (Nat.le_refl _) _) (Nat.le_refl _) _) (Nat.le_refl _) _⟩
  have g1 : decide (W < 1) = false := by simpa using h1
  by_cases h2 : H < 1
  · clear h h1
    go_enter Tryd.func32, Tryd.ntmps32
    go_wp2
    refine bodyPost_ret_by (v := .tuple #[.agg #[.int .i64 0, .slice none 0 0, .slice none 0 0], .int .i64 1]) (by rw [results_cell_tmp rfl]; go_simp) rfl ?_
    exact ⟨rfl, by first | ((repeat (first | exact Below.refl _ _ | assumption | refine below_alloc ?_ _ | refine Below.drew ?_ | refine below_drewN_ ?_ _ | refine below_step ?_ (by assumption))); done) | exact Below.setCell (Below.setCell (Below.setCell (below_alloc (Below.refl _ _) _) (Nat.le_refl _) _) (Nat.le_refl _) _) (Nat.le_refl _) _⟩
  have g2 : decide (H < 1) = false := by simpa using h2
  have h3 : 64 / H < W := by
    have h4 : 64 < W * H := by omega
    exact Int.ediv_lt_of_lt_mul (by omega) h4
  have g3 : decide (64 / H < W) = true := by simpa using h3
  have p1 : 1 ≤ W := by omega
  have p2 : 1 ≤ H := by omega
  clear h h1 h2 h3
  go_enter Tryd.func32, Tryd.ntmps32
  go_wp2
  refine bodyPost_ret_by (v := .tuple #[.agg #[.int .i64 0, .slice none 0 0, .slice none 0 0], .int .i64 1]) (by rw [results_cell_tmp rfl]; go_simp) rfl ?_
  exact ⟨rfl, by first | ((repeat (first | exact Below.refl _ _ | assumption | refine below_alloc ?_ _ | refine Below.drew ?_ | refine below_drewN_ ?_ _ | refine below_step ?_ (by assumption))); done) | exact Below.setCell (Below.setCell (Below.setCell (below_alloc (Below.refl _ _) _) (Nat.le_refl _) _) (Nat.le_refl _) _) (Nat.le_refl _) _⟩
end Go.Proofs.YtcpjkilnbhfpjaaDoor
