/-
  The signs of numbers.
-/
import Derived.Test.YtphhkfelpckilaaGreatDoorDVal
namespace Go.Proofs.YtphhkfelpckilaaGreatDoor
open Go Go.RowKit

def signS (s : List UInt8) (n : Int) : List UInt8 := if 0 ≤ n ∧ n < s.length then [s[n.toNat]?.getD 0] else []
theorem byte_ext (s : List UInt8) (q : Nat) (h : q < s.length) : (⟨s.toArray⟩ : ByteArray).extract q (q + 1) = ⟨#[s[q]?.getD 0]⟩ := by
  apply ByteArray.ext
  rw [ByteArray.data_extract]
  apply Array.ext
  · simp; omega
  · intro i h1 h2
    obtain rfl : i = 0 := by simpa using h2
    simp [h]
set_option maxHeartbeats 400000 in
theorem sign_any (s : List UInt8) (n : Int) (w : World) (hs : s.length ≤ 100) :
    Calls Tryz.prog 75 #[.string ⟨s.toArray⟩, .int .i64 n] w fun e w' => e = .returned (.string ⟨(signS s n).toArray⟩) ∧ w' = w := by
  by_cases h0 : n < 0
  · have t0 : decide (n < 0) = true := by simpa using h0
    have HR := Lib.hid (show signS s n = [] by unfold signS; rw [if_neg (by omega)])
    clear h0
    go_enter Tryz.func75, Tryz.ntmps75
    go_wp2
    go_ret
    exact ⟨by rw [HR.out]; rfl, rfl⟩
  · obtain ⟨m, rfl⟩ := Int.eq_ofNat_of_zero_le (show 0 ≤ n by omega)
    by_cases h1 : m < s.length
    · have HR := Lib.hid (show signS s (m : Int) = [s[m]?.getD 0] by unfold signS; rw [if_pos (by omega)]; simp)
      have hx := byte_ext s m h1
      generalize s[m]?.getD 0 = y at *
      have t1 : decide ((s.length : Int) ≤ (m : Int)) = false := by simp; omega
      clear h0
      go_enter Tryz.func75, Tryz.ntmps75
      go_wp2
      go_ret
      exact ⟨by rw [HR.out]; first | rfl | (rw [hx]) | simp [hx], rfl⟩
    · have HR := Lib.hid (show signS s (m : Int) = [] by unfold signS; rw [if_neg (by omega)])
      have t1 : decide ((s.length : Int) ≤ (m : Int)) = true := by simp; omega
      clear h0
      go_enter Tryz.func75, Tryz.ntmps75
      go_wp2
      go_ret
      exact ⟨by rw [HR.out]; rfl, rfl⟩
end Go.Proofs.YtphhkfelpckilaaGreatDoor
