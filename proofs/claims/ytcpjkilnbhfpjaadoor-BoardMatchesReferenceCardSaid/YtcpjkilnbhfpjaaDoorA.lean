/-
  What isCell, meant, next and To of the package board return.
-/
import Derived.Test.YtcpjkilnbhfpjaaDoorBase
import Derived.Test.YtcpjkilnbhfpjaaDoorProg
import Derived.BigQuiet
import Derived.Deep.QuietTactic
import Derived.Deep.RegionHeld3
namespace Go.Proofs.YtcpjkilnbhfpjaaDoor
open Go Go.RowKit

set_option maxHeartbeats 400000 in
theorem isCell_yes (n c : Int) (x y : Value) (w : World) (h1 : 0 ≤ c) (h2 : c < n) (h3 : n ≤ 64) :
    Calls Tryd.prog 41 #[.agg #[.int .i64 n, x, y], .int .i64 c] w fun e w' => e = .returned (.bool true) ∧ w.alloc (.cells #[.int .i64 n, x, y] 31) = w' := by
  go_enter Tryd.func41, Tryd.ntmps41
  go_wp2
  go_ret
  exact ⟨rfl, rfl⟩

set_option maxHeartbeats 400000 in
theorem isCell_no (n c : Int) (x y : Value) (w : World) (h : c < 0 ∨ n ≤ c) (h3 : n ≤ 64) :
    Calls Tryd.prog 41 #[.agg #[.int .i64 n, x, y], .int .i64 c] w fun e w' => e = .returned (.bool false) ∧ w.alloc (.cells #[.int .i64 n, x, y] 31) = w' := by
  by_cases hc : c < 0
  · clear h
    go_enter Tryd.func41, Tryd.ntmps41
    go_wp2
    go_ret
    exact ⟨rfl, rfl⟩
  · have h2 : n ≤ c := by omega
    have h1 : 0 ≤ c := by omega
    have hd : decide (c < n) = false := by simpa using h2
    clear h hc
    go_enter Tryd.func41, Tryd.ntmps41
    go_wp2
    go_ret
    exact ⟨rfl, rfl⟩

/-- The direction that d stands for, for the side; -1 if there is none. -/
def meantS (turn : List Int) (side d : Int) : Int :=
  if d < 0 ∨ (turn.length : Int) ≤ d ∨ (side ≠ 0 ∧ side ≠ 1) then -1 else if side = 1 then turn[d.toNat]?.getD 0 else d

theorem meant_any (n : Int) (x : Value) (at_ : Option Addr) (ct : Nat) (turn : List Int) (side d : Int) (N : Nat) (w : World) (hN : N ≤ w.heap.size) (hT : Ints N w at_ turn) :
    Calls Tryd.prog 34 #[.agg #[.int .i64 n, x, .slice at_ turn.length ct], .int .i64 side, .int .i64 d] w fun e w' => e = .returned (.int .i64 (meantS turn side d)) ∧ w.alloc (.cells #[.int .i64 n, x, .slice at_ turn.length ct] 31) = w' := by
  by_cases h1 : d < 0
  · have e1 : meantS turn side d = -1 := by unfold meantS; rw [if_pos (.inl h1)]
    rw [e1]
    clear e1
    go_enter Tryd.func34, Tryd.ntmps34
    go_wp2
    go_ret
    exact ⟨rfl, rfl⟩
  by_cases h2 : (turn.length : Int) ≤ d
  · have e1 : meantS turn side d = -1 := by unfold meantS; rw [if_pos (.inr (.inl h2))]
    rw [e1]
    clear e1
    go_enter Tryd.func34, Tryd.ntmps34
    go_wp2
    go_ret
    exact ⟨rfl, rfl⟩
  by_cases h3 : side = 0
  · have e1 : meantS turn side d = d := by unfold meantS; rw [if_neg (by omega), if_neg (by omega)]
    rw [e1]
    clear e1
    subst h3
    go_enter Tryd.func34, Tryd.ntmps34
    go_wp2
    go_ret
    exact ⟨rfl, rfl⟩
  by_cases h4 : side = 1
  · have e1 : meantS turn side d = turn[d.toNat]?.getD 0 := by unfold meantS; rw [if_neg (by omega), if_pos h4]
    rw [e1]
    clear e1
    subst h4
    obtain ⟨k, rfl⟩ := Int.eq_ofNat_of_zero_le (show 0 ≤ d by omega)
    obtain ⟨b, off, rfl, hb, hc⟩ := hT.at_ (j := k) (by omega)
    have hb' : b < w.heap.size := by omega
    simp only [Int.toNat_natCast] at *
    go_enter Tryd.func34, Tryd.ntmps34
    go_wp2
    go_ret
    exact ⟨rfl, rfl⟩
  · have e1 : meantS turn side d = -1 := by unfold meantS; rw [if_pos (by omega)]
    rw [e1]
    clear e1
    have g3 : (side != 0) = true := by simpa using h3
    have g4 : (side != 1) = true := by simpa using h4
    go_enter Tryd.func34, Tryd.ntmps34
    go_wp2
    go_ret
    exact ⟨rfl, rfl⟩
end Go.Proofs.YtcpjkilnbhfpjaaDoor
