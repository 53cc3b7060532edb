/-
  Of the reference: in, Step, Count, Valid, Takes, Leads.
-/
import Derived.Test.YtidgdfjnjgonoaaGreatDoorPValid
import Derived.Test.YtidgdfjnjgonoaaGreatDoorPTakes
namespace Go.Proofs.YtidgdfjnjgonoaaGreatDoor
open Go Go.RowKit

theorem in_any (n m : Int) (w : World) : Calls Tryz.prog 45 #[.int .i64 n, .int .i64 m] w fun e w' => e = .returned (.bool (decide (0 ≤ n) && decide (n < m))) ∧ w' = w := by
  by_cases h : 0 ≤ n
  · have t : decide (0 ≤ n) = true := by simpa using h
    go_enter Tryz.func45, Tryz.ntmps45
    go_wp2
    go_ret
    exact ⟨by simp [h], rfl⟩
  · have t : decide (0 ≤ n) = false := by simpa using h
    rw [t]
    go_enter Tryz.func45, Tryz.ntmps45
    go_wp2
    go_ret
    exact ⟨by simp, rfl⟩

set_option maxRecDepth 100000 in
set_option maxHeartbeats 2000000 in
theorem qstep_any (op n d k r : Int) (w : World) : Calls Tryz.prog 30 #[.agg #[.int .i64 op, .int .i64 n], .int .i64 d, .int .i64 k, .int .i64 r] w fun e w' => e = .returned (.bool (okStep d k r (op, n))) ∧ Below w.heap.size w w' := by
  cases h : opB op with
  | false =>
    have HO := Lib.hid (by simp [okStep, h] : okStep d k r (op, n) = false)
    have hn : ∀ j : Int, 0 < j → j < 11 → (op == j) = false ∧ decide (op = j) = false := by
      intro j h0 h1
      have : ¬ op = j := fun e => by
        have : opB op = true := by unfold opB; simp; omega
        rw [this] at h; cases h
      simpa using this
    obtain ⟨a1, b1⟩ := hn 1 (by omega) (by omega)
    obtain ⟨a2, b2⟩ := hn 2 (by omega) (by omega)
    obtain ⟨a3, b3⟩ := hn 3 (by omega) (by omega)
    obtain ⟨a4, b4⟩ := hn 4 (by omega) (by omega)
    obtain ⟨a5, b5⟩ := hn 5 (by omega) (by omega)
    obtain ⟨a6, b6⟩ := hn 6 (by omega) (by omega)
    obtain ⟨a7, b7⟩ := hn 7 (by omega) (by omega)
    obtain ⟨a8, b8⟩ := hn 8 (by omega) (by omega)
    obtain ⟨a9, b9⟩ := hn 9 (by omega) (by omega)
    obtain ⟨a10, b10⟩ := hn 10 (by omega) (by omega)
    clear hn h
    go_enter Tryz.func30, Tryz.ntmps30
    go_wp2
    go_ret
    exact ⟨by rw [HO.out]; rfl, by (repeat (first | exact Below.refl _ _ | assumption | refine below_alloc ?_ _ | refine Below.drew ?_ | refine below_drewN_ ?_ _ | refine below_step ?_ (by assumption)))⟩
  | true =>
    obtain ⟨j, rfl, h0, h11⟩ := opB_nat h
    clear h
    have : j = 1 ∨ j = 2 ∨ j = 3 ∨ j = 4 ∨ j = 5 ∨ j = 6 ∨ j = 7 ∨ j = 8 ∨ j = 9 ∨ j = 10 := by omega
    clear h0 h11
    rcases this with rfl | rfl | rfl | rfl | rfl | rfl | rfl | rfl | rfl | rfl
    · have HO := Lib.hid (by simp [okStep, opB, limS, nameS, namesL] : okStep d k r (((1 : Nat) : Int), n) = (decide (0 ≤ n) && decide (n < d)))
      go_enter Tryz.func30, Tryz.ntmps30
      go_wp2_with (go_at_call 45; refine (in_any n _ _).mono ?_; rintro e w' ⟨rfl, rfl⟩)
      go_ret
      exact ⟨by rw [HO.out]; first | rfl | (simp; done) | (rw [Bool.eq_iff_iff]; simp; omega), by (repeat (first | exact Below.refl _ _ | assumption | refine below_alloc ?_ _ | refine Below.drew ?_ | refine below_drewN_ ?_ _ | refine below_step ?_ (by assumption)))⟩
    · have HO := Lib.hid (by simp [okStep, opB, limS, nameS, namesL] : okStep d k r (((2 : Nat) : Int), n) = (decide (0 ≤ n) && decide (n < d)))
      go_enter Tryz.func30, Tryz.ntmps30
      go_wp2_with (go_at_call 45; refine (in_any n _ _).mono ?_; rintro e w' ⟨rfl, rfl⟩)
      go_ret
      exact ⟨by rw [HO.out]; first | rfl | (simp; done) | (rw [Bool.eq_iff_iff]; simp; omega), by (repeat (first | exact Below.refl _ _ | assumption | refine below_alloc ?_ _ | refine Below.drew ?_ | refine below_drewN_ ?_ _ | refine below_step ?_ (by assumption)))⟩
    · have HO := Lib.hid (by simp [okStep, opB, limS, nameS, namesL]; rw [Bool.eq_iff_iff]; simp; omega : okStep d k r (((3 : Nat) : Int), n) = decide (n = 0))
      go_enter Tryz.func30, Tryz.ntmps30
      go_wp2_with (go_at_call 45; refine (in_any n _ _).mono ?_; rintro e w' ⟨rfl, rfl⟩)
      go_ret
      exact ⟨by rw [HO.out]; first | rfl | (simp; done) | (rw [Bool.eq_iff_iff]; simp; omega), by (repeat (first | exact Below.refl _ _ | assumption | refine below_alloc ?_ _ | refine Below.drew ?_ | refine below_drewN_ ?_ _ | refine below_step ?_ (by assumption)))⟩
    · have HO := Lib.hid (by simp [okStep, opB, limS, nameS, namesL]; rw [Bool.eq_iff_iff]; simp; omega : okStep d k r (((4 : Nat) : Int), n) = decide (n = 0))
      go_enter Tryz.func30, Tryz.ntmps30
      go_wp2_with (go_at_call 45; refine (in_any n _ _).mono ?_; rintro e w' ⟨rfl, rfl⟩)
      go_ret
      exact ⟨by rw [HO.out]; first | rfl | (simp; done) | (rw [Bool.eq_iff_iff]; simp; omega), by (repeat (first | exact Below.refl _ _ | assumption | refine below_alloc ?_ _ | refine Below.drew ?_ | refine below_drewN_ ?_ _ | refine below_step ?_ (by assumption)))⟩
    · have HO := Lib.hid (by simp [okStep, opB, limS, nameS, namesL]; rw [Bool.eq_iff_iff]; simp; omega : okStep d k r (((5 : Nat) : Int), n) = decide (n = 0))
      go_enter Tryz.func30, Tryz.ntmps30
      go_wp2_with (go_at_call 45; refine (in_any n _ _).mono ?_; rintro e w' ⟨rfl, rfl⟩)
      go_ret
      exact ⟨by rw [HO.out]; first | rfl | (simp; done) | (rw [Bool.eq_iff_iff]; simp; omega), by (repeat (first | exact Below.refl _ _ | assumption | refine below_alloc ?_ _ | refine Below.drew ?_ | refine below_drewN_ ?_ _ | refine below_step ?_ (by assumption)))⟩
    · have HO := Lib.hid (by simp [okStep, opB, limS, nameS, namesL]; rw [Bool.eq_iff_iff]; simp; omega : okStep d k r (((6 : Nat) : Int), n) = decide (n = 0))
      go_enter Tryz.func30, Tryz.ntmps30
      go_wp2_with (go_at_call 45; refine (in_any n _ _).mono ?_; rintro e w' ⟨rfl, rfl⟩)
      go_ret
      exact ⟨by rw [HO.out]; first | rfl | (simp; done) | (rw [Bool.eq_iff_iff]; simp; omega), by (repeat (first | exact Below.refl _ _ | assumption | refine below_alloc ?_ _ | refine Below.drew ?_ | refine below_drewN_ ?_ _ | refine below_step ?_ (by assumption)))⟩
    · have HO := Lib.hid (by simp [okStep, opB, limS, nameS, namesL] : okStep d k r (((7 : Nat) : Int), n) = (decide (0 ≤ n) && decide (n < d)))
      go_enter Tryz.func30, Tryz.ntmps30
      go_wp2_with (go_at_call 45; refine (in_any n _ _).mono ?_; rintro e w' ⟨rfl, rfl⟩)
      go_ret
      exact ⟨by rw [HO.out]; first | rfl | (simp; done) | (rw [Bool.eq_iff_iff]; simp; omega), by (repeat (first | exact Below.refl _ _ | assumption | refine below_alloc ?_ _ | refine Below.drew ?_ | refine below_drewN_ ?_ _ | refine below_step ?_ (by assumption)))⟩
    · have HO := Lib.hid (by simp [okStep, opB, limS, nameS, namesL] : okStep d k r (((8 : Nat) : Int), n) = (decide (0 ≤ n) && decide (n < k)))
      go_enter Tryz.func30, Tryz.ntmps30
      go_wp2_with (go_at_call 45; refine (in_any n _ _).mono ?_; rintro e w' ⟨rfl, rfl⟩)
      go_ret
      exact ⟨by rw [HO.out]; first | rfl | (simp; done) | (rw [Bool.eq_iff_iff]; simp; omega), by (repeat (first | exact Below.refl _ _ | assumption | refine below_alloc ?_ _ | refine Below.drew ?_ | refine below_drewN_ ?_ _ | refine below_step ?_ (by assumption)))⟩
    · have HO := Lib.hid (by simp [okStep, opB, limS, nameS, namesL] : okStep d k r (((9 : Nat) : Int), n) = (decide (0 ≤ n) && decide (n < r)))
      go_enter Tryz.func30, Tryz.ntmps30
      go_wp2_with (go_at_call 45; refine (in_any n _ _).mono ?_; rintro e w' ⟨rfl, rfl⟩)
      go_ret
      exact ⟨by rw [HO.out]; first | rfl | (simp; done) | (rw [Bool.eq_iff_iff]; simp; omega), by (repeat (first | exact Below.refl _ _ | assumption | refine below_alloc ?_ _ | refine Below.drew ?_ | refine below_drewN_ ?_ _ | refine below_step ?_ (by assumption)))⟩
    · have HO := Lib.hid (by simp [okStep, opB, limS, nameS, namesL] : okStep d k r (((10 : Nat) : Int), n) = (decide (0 ≤ n) && decide (n < r)))
      go_enter Tryz.func30, Tryz.ntmps30
      go_wp2_with (go_at_call 45; refine (in_any n _ _).mono ?_; rintro e w' ⟨rfl, rfl⟩)
      go_ret
      exact ⟨by rw [HO.out]; first | rfl | (simp; done) | (rw [Bool.eq_iff_iff]; simp; omega), by (repeat (first | exact Below.refl _ _ | assumption | refine below_alloc ?_ _ | refine Below.drew ?_ | refine below_drewN_ ?_ _ | refine below_step ?_ (by assumption)))⟩

def leadsB (op : Int) : Bool := op == 1 || (op == 2 || op == 7)
theorem leads_dir (op : Int) : leadsB op = hasDirB op := by
  unfold leadsB hasDirB
  cases h : opB op with
  | false =>
    have hn : ∀ j : Int, 0 < j → j < 11 → ¬ op = j := by
      intro j h0 h1 e
      have : opB op = true := by unfold opB; simp; omega
      rw [this] at h; cases h
    have h1 := hn 1 (by omega) (by omega)
    have h2 := hn 2 (by omega) (by omega)
    have h7 := hn 7 (by omega) (by omega)
    have e1 : (op == 1) = false := by simpa using h1
    have e2 : (op == 2) = false := by simpa using h2
    have e7 : (op == 7) = false := by simpa using h7
    rw [e1, e2, e7]; rfl
  | true =>
    obtain ⟨j, rfl, h0, h11⟩ := opB_nat h
    have : j = 1 ∨ j = 2 ∨ j = 3 ∨ j = 4 ∨ j = 5 ∨ j = 6 ∨ j = 7 ∨ j = 8 ∨ j = 9 ∨ j = 10 := by omega
    rcases this with rfl | rfl | rfl | rfl | rfl | rfl | rfl | rfl | rfl | rfl <;> decide
theorem leads_any (op n : Int) (w : World) : Calls Tryz.prog 27 #[.agg #[.int .i64 op, .int .i64 n]] w fun e w' => e = .returned (.bool (hasDirB op)) ∧ Below w.heap.size w w' := by
  rw [← leads_dir]
  unfold leadsB
  cases h1 : (op == 1) with
  | true =>
    go_enter Tryz.func27, Tryz.ntmps27
    go_wp2
    go_ret
    exact ⟨by simp, by (repeat (first | exact Below.refl _ _ | assumption | refine below_alloc ?_ _ | refine Below.drew ?_ | refine below_drewN_ ?_ _ | refine below_step ?_ (by assumption)))⟩
  | false =>
    cases h2 : (op == 2) with
    | true =>
      go_enter Tryz.func27, Tryz.ntmps27
      go_wp2
      go_ret
      exact ⟨by simp, by (repeat (first | exact Below.refl _ _ | assumption | refine below_alloc ?_ _ | refine Below.drew ?_ | refine below_drewN_ ?_ _ | refine below_step ?_ (by assumption)))⟩
    | false =>
      cases h3 : (op == 7) with
      | true =>
        go_enter Tryz.func27, Tryz.ntmps27
        go_wp2
        go_ret
        exact ⟨by simp, by (repeat (first | exact Below.refl _ _ | assumption | refine below_alloc ?_ _ | refine Below.drew ?_ | refine below_drewN_ ?_ _ | refine below_step ?_ (by assumption)))⟩
      | false =>
        go_enter Tryz.func27, Tryz.ntmps27
        go_wp2
        go_ret
        exact ⟨by simp, by (repeat (first | exact Below.refl _ _ | assumption | refine below_alloc ?_ _ | refine Below.drew ?_ | refine below_drewN_ ?_ _ | refine below_step ?_ (by assumption)))⟩
end Go.Proofs.YtidgdfjnjgonoaaGreatDoor
