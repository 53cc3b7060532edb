/-
  number and list of the reference.
-/
import Derived.Test.YtepbmgbomdekaaaDEq
import Derived.StillTailTactics
namespace Go.Proofs.Ytepbmgbomdekaaa
open Go Go.RowKit

theorem rnum_any (x y : Int) (w : World) : Calls Try.prog 39 #[.int .i64 x, .int .i64 y] w fun e w' => e = .returned (.int .i64 (cmpI x y)) ∧ w' = w := by
  by_cases h1 : x < y
  · have t1 : decide (x < y) = true := by simpa using h1
    have HR := Lib.hid (show cmpI x y = -1 by unfold cmpI; rw [if_pos h1])
    clear h1
    go_enter Try.func39, Try.ntmps39
    go_wp2
    go_ret
    exact ⟨by rw [HR.out]; rfl, rfl⟩
  · have t1 : decide (x < y) = false := by simpa using h1
    by_cases h2 : x = y
    · have HR := Lib.hid (show cmpI x y = 0 by unfold cmpI; rw [if_neg h1, if_pos h2])
      have t2 : decide (y < x) = false := by simp; omega
      clear h1 h2
      go_enter Try.func39, Try.ntmps39
      go_wp2
      go_ret
      exact ⟨by rw [HR.out]; rfl, rfl⟩
    · have HR := Lib.hid (show cmpI x y = 1 by unfold cmpI; rw [if_neg h1, if_neg h2])
      have t2 : decide (y < x) = true := by simp; omega
      clear h1 h2
      go_enter Try.func39, Try.ntmps39
      go_wp2
      go_ret
      exact ⟨by rw [HR.out]; rfl, rfl⟩
theorem cmpL_lens (l m : List Int) (k : Nat) (h : l.length ≤ k ∨ m.length ≤ k) (hl : k ≤ l.length) (hm : k ≤ m.length) : cmpL (l.drop k) (m.drop k) = cmpI l.length m.length := by
  by_cases h1 : k < l.length
  · have h2 : m.length ≤ k := by omega
    rw [cmpL_left l m k h1 h2]
    unfold cmpI; rw [if_neg (by omega), if_neg (by omega)]
  · obtain rfl : k = l.length := by omega
    rw [cmpL_end]
    unfold cmpI
    by_cases h3 : l.length < m.length
    · rw [if_pos h3, if_pos (by omega)]
    · rw [if_neg h3, if_neg (by omega), if_pos (by omega)]

set_option maxRecDepth 100000 in
set_option maxHeartbeats 1000000 in
theorem rlist_any (l m : List Int) (a a2 : Option Addr) (ct c2 N : Nat) (w : World) (hl : l.length ≤ maxLen) (hI : Ints N w a l) (hI2 : Ints N w a2 m) :
    Calls Try.prog 38 #[.slice a l.length ct, .slice a2 m.length c2] w fun e w' => e = .returned (.int .i64 (cmpL l m)) ∧ ∃ q, w' = w.drewN q := by
  unfold maxLen at hl
  obtain ⟨R, hR⟩ : ∃ R, cmpL l m = R := ⟨_, rfl⟩
  rw [hR]
  have HR := Lib.hid hR
  clear hR
  go_enter Try.func38, Try.ntmps38
  go_wp2
  go_loopw [5] (fun i wr => ∃ k : Nat, k ≤ l.length ∧ k ≤ m.length ∧ i = .int .i64 k ∧ Hid (cmpL (l.drop k) (m.drop k) = R) ∧ ∃ q, wr = w.drewN q)
    (fun i _ => l.length - (intOf i).toNat)
  case atStart => exact ⟨0, Nat.zero_le _, Nat.zero_le _, rfl, HR, 0, rfl⟩
  case round =>
    obtain ⟨k, hk, hk2, rfl, HK, q0, rfl⟩ := hrel
    by_cases hlt : k < l.length
    · have t0 : decide ((k : Int) < (l.length : Int)) = true := by simp; omega
      by_cases hm : k < m.length
      · have t1 : decide ((k : Int) < (m.length : Int)) = true := by simp; omega
        obtain ⟨b, off, hab, hbN, hc⟩ := hI.at_ hlt
        obtain ⟨b2, off2, hab2, hbN2, hc2⟩ := hI2.at_ hm
        subst hab
        subst hab2
        have hst := cmpL_step l m k hlt hm
        rw [HK.out] at hst
        generalize l[k]?.getD 0 = x at hc hst
        generalize m[k]?.getD 0 = y at hc2 hst
        by_cases h : x = y
        · have h1 : (x != y) = false := by simpa using h
          have h2 : decide (x = y) = true := by simpa using h
          have HS := Lib.hid (show cmpL (l.drop (k + 1)) (m.drop (k + 1)) = R by
            have e : cmpI x y = 0 := by unfold cmpI; rw [if_neg (by omega), if_pos h]
            rw [hst]; unfold orI; rw [if_pos e])
          clear hst hI hI2
          go_wp2_with fail
          go_loud (go_quiet (fail))
          go_wp2
          go_roundw
          case rel => exact ⟨k + 1, by omega, by omega, by simp, HS, by first | exact ⟨_, rfl⟩ | exact ⟨_, World.drewN_drewN _ _ _⟩⟩
          case measure => simp [intOf]; omega
        · have h1 : (x != y) = true := by simpa using h
          have h2 : decide (x = y) = false := by simpa using h
          have hne : ¬ cmpI x y = 0 := by unfold cmpI; split <;> simp_all
          have HS := Lib.hid (show R = cmpI x y by rw [hst]; unfold orI; rw [if_neg hne])
          have HC := Lib.hid (rnum_any x y)
          clear hst hI hI2 hne
          generalize cmpI x y = z at *
          go_wp2_with fail
          go_loud (go_quiet (fail))
          go_wp2_with fail
          rw [World.drewN_drewN]
          generalize hW : w.drewN (q0 + _) = w1
          have c1 : w1.cell? ⟨b, off + k, none⟩ = some (.int .i64 x) := by rw [← hW]; exact hc
          have c2 : w1.cell? ⟨b2, off2 + k, none⟩ = some (.int .i64 y) := by rw [← hW]; exact hc2
          have HW := Lib.hid hW
          clear hc hc2 hW
          go_still_tail 9, (by kernel_rfl)
          still_call (HC.out w1.drew)
          repeat still_step
          try refine wpStill_nil ?_
          change wpList _ _ _ _ _ w1.drew
          go_wp2
          go_ret
          exact ⟨by rw [HS.out]; rfl, _, by rw [← HW.out]; exact World.drew_drewN _ _⟩
      · have t1 : decide ((k : Int) < (m.length : Int)) = false := by simp; omega
        have HS := Lib.hid (show R = cmpI l.length m.length by rw [← HK.out]; exact cmpL_lens l m k (by omega) hk hk2)
        have HC := Lib.hid (rnum_any l.length m.length)
        clear hI hI2
        generalize cmpI l.length m.length = z at *
        go_wp2_with (go_at_call 39; refine (HC.out _).mono ?_; rintro e w' ⟨rfl, rfl⟩)
        go_ret
        exact ⟨by rw [HS.out]; rfl, by first | exact ⟨_, rfl⟩ | exact ⟨_, World.drewN_drewN _ _ _⟩⟩
    · have t0 : decide ((k : Int) < (l.length : Int)) = false := by simp; omega
      have HS := Lib.hid (show R = cmpI l.length m.length by rw [← HK.out]; exact cmpL_lens l m k (by omega) hk hk2)
      have HC := Lib.hid (rnum_any l.length m.length)
      clear hI hI2
      generalize cmpI l.length m.length = z at *
      go_wp2_with (go_at_call 39; refine (HC.out _).mono ?_; rintro e w' ⟨rfl, rfl⟩)
      go_ret
      exact ⟨by rw [HS.out]; rfl, by first | exact ⟨_, rfl⟩ | exact ⟨_, World.drewN_drewN _ _ _⟩⟩
end Go.Proofs.Ytepbmgbomdekaaa
