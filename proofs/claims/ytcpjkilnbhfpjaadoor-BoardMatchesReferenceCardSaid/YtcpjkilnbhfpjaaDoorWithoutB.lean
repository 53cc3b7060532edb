/-
  Without of the package board, at numbers that are no cell.
-/
import Derived.Test.YtcpjkilnbhfpjaaDoorWithout
namespace Go.Proofs.YtcpjkilnbhfpjaaDoor
open Go Go.RowKit Go.Shelf

theorem without_bad (n : Int) (x y : Value) (c : Int) (w : World) (hc : c < 0 ∨ n ≤ c) (hn : n ≤ 64) :
    Calls Tryd.prog 20 #[.agg #[.int .i64 n, x, y], .int .i64 c] w fun e W' => e = .returned (.tuple #[.agg #[.int .i64 0, .slice none 0 0, .slice none 0 0], .int .i64 1]) ∧ Below w.heap.size w W' := by
  go_enter Tryd.func20, Tryd.ntmps20
  go_wp2_with (go_at_call 41; refine (isCell_no n c _ _ _ hc hn).mono ?_; rintro e w' ⟨rfl, rfl⟩)
  refine bodyPost_ret_by (v := .tuple #[.agg #[.int .i64 0, .slice none 0 0, .slice none 0 0], .int .i64 1]) (by rw [results_cell_tmp rfl]; go_simp) rfl ?_
  exact ⟨rfl, by (repeat (first | exact Below.refl _ _ | assumption | refine below_alloc ?_ _ | refine Below.drew ?_ | refine below_drewN_ ?_ _ | refine below_step ?_ (by assumption)))⟩
end Go.Proofs.YtcpjkilnbhfpjaaDoor
