/-
  Valid of the package board.
-/
import Derived.Test.YtcpjkilnbhfpjaaDoorBase
import Derived.Test.YtcpjkilnbhfpjaaDoorShelf
namespace Go.Proofs.YtcpjkilnbhfpjaaDoor
open Go Go.RowKit

def okTurn (l : List Int) (d i : Nat) : Bool := decide (0 ≤ l[i]?.getD 0) && decide (l[i]?.getD 0 < (d : Int)) && decide (l[(l[i]?.getD 0).toNat]?.getD 0 = (i : Int))
def turnS (l : List Int) (d : Nat) : Bool := decide (l.length = d) && (List.range d).all (okTurn l d)

theorem turn_no {l : List Int} {d i : Nat} (hi : i < d) (h : okTurn l d i = false) : turnS l d = false := by
  unfold turnS
  rw [Bool.and_eq_false_iff]
  right
  rw [List.all_eq_false]
  exact ⟨i, by simpa using hi, by simpa using h⟩

theorem turn_yes {l : List Int} (h : ∀ j, j < l.length → okTurn l l.length j = true) : turnS l l.length = true := by
  unfold turnS
  simp only [decide_true, Bool.true_and, List.all_eq_true, List.mem_range]
  exact h

set_option maxRecDepth 100000 in
set_option maxHeartbeats 1000000 in
theorem turn_any (l : List Int) (d : Nat) (a : Option Addr) (ct N : Nat) (w : World) (hd : d ≤ 1000) (hI : Ints N w a l) :
    Calls Tryd.prog 50 #[.slice a l.length ct, .int .i64 d] w fun e w' => e = .returned (.bool (turnS l d)) ∧ w' = w := by
  go_enter Tryd.func50, Tryd.ntmps50
  by_cases hld : l.length = d
  · subst hld
    go_wp2
    go_loopw [13] (fun i wr => ∃ k : Nat, k ≤ l.length ∧ i = .int .i64 k ∧ (∀ j, j < k → okTurn l l.length j = true) ∧ wr = w)
      (fun i _ => l.length - (intOf i).toNat)
    case atStart => exact ⟨0, Nat.zero_le _, rfl, fun j hj => absurd hj (Nat.not_lt_zero _), rfl⟩
    case round =>
      obtain ⟨k, hk, rfl, hall, rfl⟩ := hrel
      by_cases hlt : k < l.length
      · obtain ⟨b, off, hab, _, hc⟩ := hI.at_ hlt
        subst hab
        generalize hx : l[k]?.getD 0 = x at hc
        by_cases h1 : x < 0
        · have HO := Lib.hid (turn_no hlt (by simp [okTurn, hx]; omega) : turnS l l.length = false)
          clear hall hx hI
          go_wp2
          go_ret
          exact ⟨by rw [HO.out]; rfl, rfl⟩
        · have h1' : decide (x < 0) = false := by simpa using h1
          by_cases h2 : x < (l.length : Int)
          · obtain ⟨m, rfl⟩ := Int.eq_ofNat_of_zero_le (show 0 ≤ x by omega)
            have hm : m < l.length := by omega
            obtain ⟨b', off', e, _, hc2⟩ := hI.at_ hm
            cases e
            generalize hy : l[m]?.getD 0 = y at hc2
            by_cases h3 : y = (k : Int)
            · have HO := Lib.hid (by unfold okTurn; rw [hx]; simp only [Int.toNat_natCast, hy]; simp [h3]; omega : okTurn l l.length k = true)
              have HA := Lib.hid hall
              have HI := Lib.hid hI
              clear hall hx hy hI
              go_wp2
              go_roundw
              case rel => exact ⟨k + 1, by omega, by simp, fun j hj => by
                by_cases e : j = k
                · rw [e]; exact HO.out
                · exact HA.out j (by omega), trivial⟩
              case measure => simp [intOf]; omega
            · have h3' : (y != (k : Int)) = true := by simpa using h3
              have hm' : decide (l.length ≤ m) = false := by simpa using hm
              have HO := Lib.hid (turn_no hlt (by unfold okTurn; rw [hx]; simp only [Int.toNat_natCast, hy]; simp [h3]) : turnS l l.length = false)
              clear hall hx hy hI
              go_wp2
              go_ret
              exact ⟨by rw [HO.out]; rfl, rfl⟩
          · have h2' : decide (x < (l.length : Int)) = false := by simpa using h2
            have HO := Lib.hid (turn_no hlt (by simp [okTurn, hx]; omega) : turnS l l.length = false)
            clear hall hx hI
            go_wp2
            go_ret
            exact ⟨by rw [HO.out]; rfl, rfl⟩
      · obtain rfl : k = l.length := by omega
        go_wp2
        go_ret
        exact ⟨by rw [turn_yes hall]; rfl, rfl⟩
  · have hno : turnS l d = false := by simp [turnS, hld]
    have hne : decide ((l.length : Int) = (d : Int)) = false := by simp; omega
    go_wp2
    go_ret
    exact ⟨by rw [hno]; rfl, rfl⟩
end Go.Proofs.YtcpjkilnbhfpjaaDoor
