/-
  sameInts of the laws, Same of the reference.
-/
import Derived.Test.YtidgdfjnjgonoaaGreatDoorPBase
import Derived.Deep.QuietTactic
import Derived.WalkKit
namespace Go.Proofs.YtidgdfjnjgonoaaGreatDoor
open Go Go.RowKit

theorem step_stood : Tryz.prog.stoodInHeld 41 = false := by kernel_rfl
theorem step_guard : Tryz.prog.eqGuardType Tryz.prog.depth 41 = false := by kernel_rfl
theorem neq_step (y1 y2 z1 z2 : Int) (W : World) : (binOp .neq 41 (.agg #[.int .i64 y1, .int .i64 y2]) (.agg #[.int .i64 z1, .int .i64 z2])).run Tryz.prog W = .ok (.bool (!(y1 == z1 && y2 == z2))) W := by
  have ht : Tryz.prog.underlying 41 = some (.struct (Tryz.prog.fieldsOf 41)) := by kernel_rfl
  have h3 : Tryz.prog.underlying 3 = some (.int .i64) := Tryz.underlying3
  have hi : (Tryz.prog.info? 3).map (·.size) = some 1 := by kernel_rfl
  rw [run_neq_struct, run_equalIn_agg _ _ _ _ _ ht step_stood]
  unfold Program.fieldsOf
  rw [Tryz.underlying41]
  go_simp
  by_cases h1 : y1 = z1 <;> by_cases h2 : y2 = z2 <;> simp [h1, h2]

set_option maxRecDepth 100000 in
set_option maxHeartbeats 1000000 in
theorem sameInts_any (l m : List Int) (a a2 : Option Addr) (ct c2 N : Nat) (w : World) (hl : l.length ≤ 2000) (hI : Ints N w a l) (hI2 : Ints N w a2 m) :
    Calls Tryz.prog 17 #[.slice a l.length ct, .slice a2 m.length c2] w fun e w' => e = .returned (.bool (decide (l = m))) ∧ ∃ q, w' = w.drewN q := by
  by_cases hlm : l.length = m.length
  · go_enter Tryz.func17, Tryz.ntmps17
    rw [← hlm]
    have HLM := Lib.hid hlm
    clear hlm
    go_wp2
    go_loopw [5] (fun i wr => ∃ k : Nat, k ≤ l.length ∧ i = .int .i64 k ∧ (∀ j, j < k → l[j]?.getD 0 = m[j]?.getD 0) ∧ ∃ q, wr = w.drewN q)
      (fun i _ => l.length - (intOf i).toNat)
    case atStart => exact ⟨0, Nat.zero_le _, rfl, fun j hj => absurd hj (Nat.not_lt_zero _), 0, rfl⟩
    case round =>
      obtain ⟨k, hk, rfl, hall, q0, rfl⟩ := hrel
      by_cases hlt : k < l.length
      · obtain ⟨b, off, hab, hbN, hc⟩ := hI.at_ hlt
        obtain ⟨b2, off2, hab2, hbN2, hc2⟩ := hI2.at_ (j := k) (by have := HLM.out; omega)
        subst hab
        subst hab2
        have HK2 := Lib.hid (show k < m.length by have := HLM.out; omega)
        generalize hy : l[k]?.getD 0 = y at hc
        generalize hz : m[k]?.getD 0 = z at hc2
        by_cases h : y = z
        · have h1 : (y != z) = false := by simpa using h
          have h2 : decide (y = z) = true := by simpa using h
          have HA := Lib.hid hall
          have HY := Lib.hid hy
          have HZ := Lib.hid hz
          clear hall hy hz hI hI2
          go_wp2_with fail
          go_quiet (fail)
          go_wp2
          go_roundw
          case rel => exact ⟨k + 1, by omega, by simp, fun j hj => by
            by_cases e : j = k
            · rw [e, HY.out, HZ.out]; exact h
            · exact HA.out j (by omega), by first | exact ⟨_, rfl⟩ | exact ⟨_, World.drewN_drewN _ _ _⟩⟩
          case measure => simp [intOf]; omega
        · have HO := Lib.hid (by
            have : ¬ l = m := fun e => h (by rw [← hy, ← hz, e])
            simpa using this : decide (l = m) = false)
          have h1 : (y != z) = true := by simpa using h
          have h2 : decide (y = z) = false := by simpa using h
          clear hall hy hz hI hI2
          go_wp2_with fail
          go_quiet (fail)
          go_wp2
          go_ret
          exact ⟨by rw [HO.out]; rfl, by first | exact ⟨_, rfl⟩ | exact ⟨_, World.drewN_drewN _ _ _⟩⟩
      · obtain rfl : k = l.length := by omega
        have HO := Lib.hid (by
          have : l = m := by
            apply List.ext_getElem HLM.out
            intro j h1 h2
            have := hall j h1
            simpa [h1, h2] using this
          simpa using this : decide (l = m) = true)
        clear hall hI hI2
        go_wp2
        go_ret
        exact ⟨by rw [HO.out]; rfl, by first | exact ⟨_, rfl⟩ | exact ⟨_, World.drewN_drewN _ _ _⟩⟩
  · have HO := Lib.hid (by
      have : ¬ l = m := fun e => hlm (by rw [e])
      simpa using this : decide (l = m) = false)
    have hne : ((l.length : Int) != (m.length : Int)) = true := by simp; omega
    have hne2 : decide ((l.length : Int) = (m.length : Int)) = false := by simp; omega
    go_enter Tryz.func17, Tryz.ntmps17
    go_wp2
    go_ret
    exact ⟨by rw [HO.out]; rfl, 0, rfl⟩
set_option maxRecDepth 100000 in
set_option maxHeartbeats 1000000 in
theorem same_any (l m : List (Int × Int)) (a a2 : Option Addr) (ct c2 N : Nat) (w : World) (hl : l.length ≤ 2000) (hI : Prg N w a l) (hI2 : Prg N w a2 m) :
    Calls Tryz.prog 24 #[.slice a l.length ct, .slice a2 m.length c2] w fun e w' => e = .returned (.bool (decide (l = m))) ∧ ∃ q, w' = w.drewN q := by
  by_cases hlm : l.length = m.length
  · go_enter Tryz.func24, Tryz.ntmps24
    rw [← hlm]
    have HLM := Lib.hid hlm
    clear hlm
    go_wp2
    go_loopw [5] (fun i wr => ∃ k : Nat, k ≤ l.length ∧ i = .int .i64 k ∧ (∀ j, j < k → l[j]?.getD (0, 0) = m[j]?.getD (0, 0)) ∧ ∃ q, wr = w.drewN q)
      (fun i _ => l.length - (intOf i).toNat)
    case atStart => exact ⟨0, Nat.zero_le _, rfl, fun j hj => absurd hj (Nat.not_lt_zero _), 0, rfl⟩
    case round =>
      obtain ⟨k, hk, rfl, hall, q0, rfl⟩ := hrel
      by_cases hlt : k < l.length
      · obtain ⟨b, off, hab, hbN, hc, hd⟩ := hI.at_ hlt
        obtain ⟨b2, off2, hab2, hbN2, hc2, hd2⟩ := hI2.at_ (j := k) (by have := HLM.out; omega)
        subst hab
        subst hab2
        have HK2 := Lib.hid (show k < m.length by have := HLM.out; omega)
        generalize hy : l[k]?.getD (0, 0) = y at hc hd
        generalize hz : m[k]?.getD (0, 0) = z at hc2 hd2
        by_cases h : y = z
        · obtain ⟨y1, y2⟩ := y
          obtain ⟨z1, z2⟩ := z
          obtain ⟨r1, r2⟩ : y1 = z1 ∧ y2 = z2 := by simpa using h
          have hq : ∀ W, (binOp .neq 41 (.agg #[.int .i64 y1, .int .i64 y2]) (.agg #[.int .i64 z1, .int .i64 z2])).run Tryz.prog W = .ok (.bool false) W := fun W => by rw [neq_step]; simp [r1, r2]
          have hg : ∀ W, (eqGuard .neq 41 (.tmp 20) (.tmp 24) (.agg #[.int .i64 y1, .int .i64 y2]) (.agg #[.int .i64 z1, .int .i64 z2])).run Tryz.prog W = .ok () W := fun W => run_eqGuard_agg W _ _ _ _ _ _ step_guard
          clear r1 r2
          dsimp only at hc hd hc2 hd2
          have HA := Lib.hid hall
          have HY := Lib.hid hy
          have HZ := Lib.hid hz
          clear hall hy hz hI hI2
          go_wp2_with fail
          go_quiet (fail)
          go_wp2
          go_roundw
          case rel => exact ⟨k + 1, by omega, by simp, fun j hj => by
            by_cases e : j = k
            · rw [e, HY.out, HZ.out]; exact h
            · exact HA.out j (by omega), by first | exact ⟨_, rfl⟩ | exact ⟨_, World.drewN_drewN _ _ _⟩⟩
          case measure => simp [intOf]; omega
        · have HO := Lib.hid (by
            have : ¬ l = m := fun e => h (by rw [← hy, ← hz, e])
            simpa using this : decide (l = m) = false)
          obtain ⟨y1, y2⟩ := y
          obtain ⟨z1, z2⟩ := z
          have hq : ∀ W, (binOp .neq 41 (.agg #[.int .i64 y1, .int .i64 y2]) (.agg #[.int .i64 z1, .int .i64 z2])).run Tryz.prog W = .ok (.bool true) W := fun W => by
            rw [neq_step]
            congr 2
            by_cases e1 : y1 = z1
            · by_cases e2 : y2 = z2
              · exact absurd (by rw [e1, e2]) h
              · simp [e2]
            · simp [e1]
          have hg : ∀ W, (eqGuard .neq 41 (.tmp 20) (.tmp 24) (.agg #[.int .i64 y1, .int .i64 y2]) (.agg #[.int .i64 z1, .int .i64 z2])).run Tryz.prog W = .ok () W := fun W => run_eqGuard_agg W _ _ _ _ _ _ step_guard
          clear h
          dsimp only at hc hd hc2 hd2
          clear hall hy hz hI hI2
          go_wp2_with fail
          go_quiet (fail)
          go_wp2
          go_ret
          exact ⟨by rw [HO.out]; rfl, by first | exact ⟨_, rfl⟩ | exact ⟨_, World.drewN_drewN _ _ _⟩⟩
      · obtain rfl : k = l.length := by omega
        have HO := Lib.hid (by
          have : l = m := by
            apply List.ext_getElem HLM.out
            intro j h1 h2
            have := hall j h1
            simpa [h1, h2] using this
          simpa using this : decide (l = m) = true)
        clear hall hI hI2
        go_wp2
        go_ret
        exact ⟨by rw [HO.out]; rfl, by first | exact ⟨_, rfl⟩ | exact ⟨_, World.drewN_drewN _ _ _⟩⟩
  · have HO := Lib.hid (by
      have : ¬ l = m := fun e => hlm (by rw [e])
      simpa using this : decide (l = m) = false)
    have hne : ((l.length : Int) != (m.length : Int)) = true := by simp; omega
    have hne2 : decide ((l.length : Int) = (m.length : Int)) = false := by simp; omega
    go_enter Tryz.func24, Tryz.ntmps24
    go_wp2
    go_ret
    exact ⟨by rw [HO.out]; rfl, 0, rfl⟩
end Go.Proofs.YtidgdfjnjgonoaaGreatDoor
