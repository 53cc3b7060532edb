/-
  cellAt of the package board.
-/
import Derived.Test.YtcpjkilnbhfpjaaDoorBase
import Derived.Test.YtcpjkilnbhfpjaaDoorProg
namespace Go.Proofs.YtcpjkilnbhfpjaaDoor
open Go Go.RowKit

def cellS (w h x y : Int) : Int := if x < 0 ∨ w ≤ x ∨ y < 0 ∨ h ≤ y then -1 else y * w + x

theorem mul_range {w h y : Int} (h0 : 0 ≤ y) (h1 : y < h) (hw0 : 0 ≤ w) (hw : w ≤ 64) (hh : h ≤ 64) : 0 ≤ y * w ∧ y * w ≤ 4096 := by
  refine ⟨Int.mul_nonneg h0 hw0, ?_⟩
  have h2 : y * w ≤ 64 * w := Int.mul_le_mul_of_nonneg_right (by omega) hw0
  omega

set_option maxHeartbeats 1000000 in
theorem cellAt_any (w h x y : Int) (W : World) (hw0 : 0 ≤ w) (hw : w ≤ 64) (hh : h ≤ 64) :
    Calls Tryd.prog 51 #[.int .i64 w, .int .i64 h, .int .i64 x, .int .i64 y] W fun e W' => e = .returned (.int .i64 (cellS w h x y)) ∧ W' = W := by
  by_cases h1 : x < 0
  · have e1 := Lib.hid (by unfold cellS; rw [if_pos (.inl h1)] : cellS w h x y = -1)
    go_enter Tryd.func51, Tryd.ntmps51
    go_wp2
    go_ret
    exact ⟨by rw [e1.out]; rfl, rfl⟩
  have h1' : decide (x < 0) = false := by simpa using h1
  by_cases h2 : w ≤ x
  · have e1 := Lib.hid (by unfold cellS; rw [if_pos (.inr (.inl h2))] : cellS w h x y = -1)
    go_enter Tryd.func51, Tryd.ntmps51
    go_wp2
    go_ret
    exact ⟨by rw [e1.out]; rfl, rfl⟩
  have h2' : decide (w ≤ x) = false := by simpa using h2
  by_cases h3 : y < 0
  · have e1 := Lib.hid (by unfold cellS; rw [if_pos (.inr (.inr (.inl h3)))] : cellS w h x y = -1)
    go_enter Tryd.func51, Tryd.ntmps51
    go_wp2
    go_ret
    exact ⟨by rw [e1.out]; rfl, rfl⟩
  have h3' : decide (y < 0) = false := by simpa using h3
  by_cases h4 : h ≤ y
  · have e1 := Lib.hid (by unfold cellS; rw [if_pos (.inr (.inr (.inr h4)))] : cellS w h x y = -1)
    go_enter Tryd.func51, Tryd.ntmps51
    go_wp2
    go_ret
    exact ⟨by rw [e1.out]; rfl, rfl⟩
  have h4' : decide (h ≤ y) = false := by simpa using h4
  have e1 := Lib.hid (by unfold cellS; rw [if_neg (by omega)] : cellS w h x y = y * w + x)
  obtain ⟨m0, m1⟩ := mul_range (w := w) (h := h) (y := y) (by omega) (by omega) hw0 hw hh
  have w1 : IntKind.i64.wrap (y * w) = y * w := IntWalk.i64_in _ (by omega)
  have w2 : IntKind.i64.wrap (y * w + x) = y * w + x := IntWalk.i64_in _ (by omega)
  go_enter Tryd.func51, Tryd.ntmps51
  go_wp2
  go_ret
  exact ⟨by rw [e1.out]; rfl, rfl⟩
end Go.Proofs.YtcpjkilnbhfpjaaDoor
