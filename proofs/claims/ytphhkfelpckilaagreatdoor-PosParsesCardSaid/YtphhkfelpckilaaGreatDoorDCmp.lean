/-
  cmp.Compare, cmp.Or, slices.Compare at numbers.
-/
import Derived.Test.YtphhkfelpckilaaGreatDoorLib0
import Derived.Test.YtphhkfelpckilaaGreatDoorOrdM
import Derived.Deep.QuietTactic
import Derived.BigQuiet
namespace Go.Proofs.YtphhkfelpckilaaGreatDoor
open Go Go.RowKit

theorem isNaN_any (x : Int) (w : World) : Calls Tryz.prog 71 #[.int .i64 x] w fun e w' => e = .returned (.bool false) ∧ w' = w := by
  go_enter Tryz.func71, Tryz.ntmps71
  go_wp2
  go_ret
  exact ⟨by simp, rfl⟩
theorem cmp_any (x y : Int) (w : World) : Calls Tryz.prog 47 #[.int .i64 x, .int .i64 y] w fun e w' => e = .returned (.int .i64 (cmpI x y)) ∧ w' = w := by
  have hI : ∀ z W, Calls Tryz.prog 71 #[.int .i64 z] W fun e w' => e = .returned (.bool false) ∧ w' = W := fun z W => isNaN_any z W
  have HI := Lib.hid hI
  clear hI
  by_cases h1 : x < y
  · have t1 : decide (x < y) = true := by simpa using h1
    have HR := Lib.hid (show cmpI x y = -1 by unfold cmpI; rw [if_pos h1])
    clear h1
    go_enter Tryz.func47, Tryz.ntmps47
    go_wp2_with (go_at_call 71; refine (HI.out _ _).mono ?_; rintro e w' ⟨rfl, rfl⟩)
    go_ret
    exact ⟨by rw [HR.out]; rfl, rfl⟩
  · have t1 : decide (x < y) = false := by simpa using h1
    by_cases h2 : x = y
    · have HR := Lib.hid (show cmpI x y = 0 by unfold cmpI; rw [if_neg h1, if_pos h2])
      have t2 : decide (y < x) = false := by simp; omega
      clear h1 h2
      go_enter Tryz.func47, Tryz.ntmps47
      go_wp2_with (go_at_call 71; refine (HI.out _ _).mono ?_; rintro e w' ⟨rfl, rfl⟩)
      go_ret
      exact ⟨by rw [HR.out]; rfl, rfl⟩
    · have HR := Lib.hid (show cmpI x y = 1 by unfold cmpI; rw [if_neg h1, if_neg h2])
      have t2 : decide (y < x) = true := by simp; omega
      clear h1 h2
      go_enter Tryz.func47, Tryz.ntmps47
      go_wp2_with (go_at_call 71; refine (HI.out _ _).mono ?_; rintro e w' ⟨rfl, rfl⟩)
      go_ret
      exact ⟨by rw [HR.out]; rfl, rfl⟩

theorem cmpL_step (l m : List Int) (k : Nat) (h1 : k < l.length) (h2 : k < m.length) :
    cmpL (l.drop k) (m.drop k) = orI (cmpI (l[k]?.getD 0) (m[k]?.getD 0)) (cmpL (l.drop (k + 1)) (m.drop (k + 1))) := by
  rw [List.drop_eq_getElem_cons h1, List.drop_eq_getElem_cons h2, List.getElem?_eq_getElem h1, List.getElem?_eq_getElem h2]
  rfl
theorem cmpL_left (l m : List Int) (k : Nat) (h1 : k < l.length) (h2 : m.length ≤ k) : cmpL (l.drop k) (m.drop k) = 1 := by
  rw [List.drop_eq_getElem_cons h1, List.drop_eq_nil_of_le h2]
  rfl
theorem cmpL_end (l m : List Int) : cmpL (l.drop l.length) (m.drop l.length) = if l.length < m.length then -1 else 0 := by
  rw [List.drop_eq_nil_of_le (Nat.le_refl _)]
  by_cases h : l.length < m.length
  · rw [List.drop_eq_getElem_cons h, if_pos h]; rfl
  · rw [List.drop_eq_nil_of_le (by omega), if_neg h]; rfl

set_option maxRecDepth 100000 in
set_option maxHeartbeats 1000000 in
theorem scmp_any (l m : List Int) (a a2 : Option Addr) (ct c2 N : Nat) (w : World) (hl : l.length ≤ maxLen) (hI : Ints N w a l) (hI2 : Ints N w a2 m) :
    Calls Tryz.prog 46 #[.slice a l.length ct, .slice a2 m.length c2] w fun e w' => e = .returned (.int .i64 (cmpL l m)) ∧ w' = w := by
  unfold maxLen at hl
  obtain ⟨R, hR⟩ : ∃ R, cmpL l m = R := ⟨_, rfl⟩
  rw [hR]
  have HR := Lib.hid hR
  clear hR
  go_enter Tryz.func46, Tryz.ntmps46
  go_wp2
  go_loop [11] (fun i => ∃ k : Nat, k ≤ l.length ∧ i = .int .i64 k ∧ Hid (cmpL (l.drop k) (m.drop k) = R)) (fun i => l.length - (intOf i).toNat)
  case atStart => exact ⟨0, Nat.zero_le _, rfl, HR⟩
  case round =>
    obtain ⟨k, hk, rfl, HK⟩ := hrel
    by_cases hlt : k < l.length
    · obtain ⟨b, off, hab, hbN, hc⟩ := hI.at_ hlt
      subst hab
      by_cases hm : k < m.length
      · obtain ⟨b2, off2, hab2, hbN2, hc2⟩ := hI2.at_ hm
        subst hab2
        have hst := cmpL_step l m k hlt hm
        rw [HK.out] at hst
        generalize l[k]?.getD 0 = x at hc hst
        generalize m[k]?.getD 0 = y at hc2 hst
        have HC := Lib.hid (cmp_any x y w)
        by_cases h0 : cmpI x y = 0
        · have HS := Lib.hid (show cmpL (l.drop (k + 1)) (m.drop (k + 1)) = R by rw [hst]; unfold orI; rw [if_pos h0])
          have H0 := Lib.hid h0
          clear hst h0 hI hI2
          go_wp2_with (go_at_call 47; refine HC.out.mono ?_; rintro e w' ⟨rfl, rfl⟩; rw [H0.out])
          go_round
          case rel => exact ⟨k + 1, by omega, by simp, HS⟩
          case measure => simp [intOf]; omega
        · have HS := Lib.hid (show R = cmpI x y by rw [hst]; unfold orI; rw [if_neg h0])
          have t0 : (cmpI x y != 0) = true := by simpa using h0
          have t1 : decide (cmpI x y = 0) = false := by simpa using h0
          clear hst h0 hI hI2
          generalize cmpI x y = z at *
          go_wp2_with (go_at_call 47; refine HC.out.mono ?_; rintro e w' ⟨rfl, rfl⟩)
          go_ret
          exact ⟨by rw [HS.out]; rfl, rfl⟩
      · have HS := Lib.hid (show R = 1 by rw [← HK.out]; exact cmpL_left l m k hlt (by omega))
        have t0 : decide ((m.length : Int) ≤ (k : Int)) = true := by simp; omega
        clear hI hI2
        go_wp2
        go_ret
        exact ⟨by rw [HS.out]; rfl, rfl⟩
    · obtain rfl : k = l.length := by omega
      have he := cmpL_end l m
      rw [HK.out] at he
      clear hI hI2
      by_cases h : l.length < m.length
      · have HS := Lib.hid (show R = -1 by rw [he, if_pos h])
        clear he
        go_wp2
        go_ret
        exact ⟨by rw [HS.out]; rfl, rfl⟩
      · have HS := Lib.hid (show R = 0 by rw [he, if_neg h])
        clear he
        go_wp2
        go_ret
        exact ⟨by rw [HS.out]; rfl, rfl⟩
end Go.Proofs.YtphhkfelpckilaaGreatDoor
