/-
  To of the package board.
-/
import Derived.Test.YtcpjkilnbhfpjaaDoorNy
namespace Go.Proofs.YtcpjkilnbhfpjaaDoor
open Go Go.RowKit

/-- The cell to which the direction that d stands for leads from c; -1 if there is none. -/
def toS (B : Brd) (side d c : Int) : Int := nextS B (meantS B.turn side d) c

set_option maxHeartbeats 400000 in
theorem to_any (B : Brd) (hB : B.Ok) (an at_ : Option Addr) (cn ct : Nat) (side d c : Int) (N : Nat) (w : World) (hN : N ≤ w.heap.size) (hH : Held N w an at_ B) :
    Calls Tryd.prog 13 #[B.val an cn at_ ct, .int .i64 side, .int .i64 d, .int .i64 c] w fun e w' => e = .returned (.int .i64 (toS B side d c)) ∧ Below w.heap.size w w' := by
  unfold toS
  go_enter Tryd.func13, Tryd.ntmps13
  go_wp2_with fail
  go_region_held3 (fun w' => w'.cell? ⟨w.heap.size, 0, none⟩ = some (.int .i64 B.cells) ∧ w'.cell? ⟨w.heap.size, 1, none⟩ = some (.slice an B.next.length cn) ∧ w'.cell? ⟨w.heap.size, 2, none⟩ = some (.slice at_ B.turn.length ct) ∧ Below w.heap.size w w')
    (first
      | (go_keep; done)
      | ((try go_split_ands)
         refine ⟨?_, ?_, ?_, ?_⟩
         · first | exact cell_alloc_keep (by assumption) _ | exact cell_keep (by assumption) (by assumption) | (go_keep; done)
         · first | exact cell_alloc_keep (by assumption) _ | exact cell_keep (by assumption) (by assumption) | (go_keep; done)
         · first | exact cell_alloc_keep (by assumption) _ | exact cell_keep (by assumption) (by assumption) | (go_keep; done)
         · (repeat (first | exact Below.refl _ _ | assumption | refine below_alloc ?_ _ | refine Below.drew ?_ | refine below_drewN_ ?_ _ | refine below_step ?_ (by assumption)))))
    (first | (go_at_call 34; refine (meant_any _ _ _ _ _ _ _ N _ (by simp; omega) (hH.2.up hN (by (repeat (first | exact Below.refl _ _ | assumption | refine below_alloc ?_ _ | refine Below.drew ?_ | refine below_drewN_ ?_ _ | refine below_step ?_ (by assumption)))))).mono ?_; rintro e w' ⟨rfl, rfl⟩)
           | (go_at_call 33; refine (next_any B hB an at_ cn ct _ _ N _ (hH.up hN (by (repeat (first | exact Below.refl _ _ | assumption | refine below_alloc ?_ _ | refine Below.drew ?_ | refine below_drewN_ ?_ _ | refine below_step ?_ (by assumption)))))).mono ?_; rintro e w' ⟨rfl, hbb⟩))
  go_wp2
  go_ret
  exact ⟨rfl, by (repeat (first | exact Below.refl _ _ | assumption | refine below_alloc ?_ _ | refine Below.drew ?_ | refine below_drewN_ ?_ _ | refine below_step ?_ (by assumption)))⟩
end Go.Proofs.YtcpjkilnbhfpjaaDoor
