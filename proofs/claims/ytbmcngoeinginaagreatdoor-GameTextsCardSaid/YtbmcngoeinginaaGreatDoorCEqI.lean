/-
 Two lists of numbers compared, in the laws of games.
-/
import Derived.Test.YtbmcngoeinginaaGreatDoorCVal
import Derived.Test.YtbmcngoeinginaaGreatDoorCBas
import Derived.Deep.QuietTactic
import Derived.WalkKit
import Derived.Deep.DeepCutAuto
namespace Go.Proofs.YtbmcngoeinginaaGreatDoor
open Go Go.RowKit
set_option maxRecDepth 100000 in
set_option maxHeartbeats 1000000 in
theorem lints_any (l m : List Int) (a a2 : Option Addr) (ct c2 N : Nat) (w : World) (hl : l.length ≤ maxLen) (hI : Ints N w a l) (hI2 : Ints N w a2 m) :
   Calls Tryz.prog 50 #[.slice a l.length ct, .slice a2 m.length c2] w fun e w' => e = .returned (.bool (decide (l = m))) ∧ ∃ q, w' = w.drewN q := by
 unfold maxLen at hl
 by_cases hlm : l.length = m.length
 · go_enter Tryz.func50, Tryz.ntmps50
   rw [← hlm]
   have HLM := Lib.hid hlm
   clear hlm
   go_wp2
   go_loopw [5] (fun i wr => ∃ k : Nat, k ≤ l.length ∧ i = .int .i64 k ∧ (∀ j, j < k → l[j]?.getD 0 = m[j]?.getD 0) ∧ ∃ q, wr = w.drewN q)
     (fun i _ => l.length - (intOf i).toNat)
   case atStart => exact ⟨0, Nat.zero_le _, rfl, fun j hj => absurd hj (Nat.not_lt_zero _), 0, rfl⟩
   case round =>
     obtain ⟨k, hk, rfl, hall, q0, rfl⟩ := hrel
     by_cases hlt : k < l.length
     · obtain ⟨b, off, hab, hbN, hc⟩ := hI.at_ hlt
       obtain ⟨b2, off2, hab2, hbN2, hc2⟩ := hI2.at_ (j := k) (by have := HLM.out; omega)
       subst hab
       subst hab2
       have HK2 := Lib.hid (show k < m.length by have := HLM.out; omega)
       generalize hy : l[k]?.getD 0 = y at hc
       generalize hz : m[k]?.getD 0 = z at hc2
       by_cases h : y = z
       · have h1 : (y != z) = false := by simpa using h
         have h2 : decide (y = z) = true := by simpa using h
         have HA := Lib.hid hall
         have HY := Lib.hid hy
         have HZ := Lib.hid hz
         clear hall hy hz hI hI2
         go_wp2_with fail
         go_quiet (fail)
         go_wp2
         go_roundw
         case rel => exact ⟨k + 1, by omega, by simp, fun j hj => by
           by_cases e : j = k
           · rw [e, HY.out, HZ.out]; exact h
           · exact HA.out j (by omega), by first | exact ⟨_, rfl⟩ | exact ⟨_, World.drewN_drewN _ _ _⟩⟩
         case measure => simp [intOf]; omega
       · have HO := Lib.hid (by
           have : ¬ l = m := fun e => h (by rw [← hy, ← hz, e])
           simpa using this : decide (l = m) = false)
         have h1 : (y != z) = true := by simpa using h
         have h2 : decide (y = z) = false := by simpa using h
         clear hall hy hz hI hI2
         go_wp2_with fail
         go_quiet (fail)
         go_wp2
         go_ret
         exact ⟨by rw [HO.out]; rfl, by first | exact ⟨_, rfl⟩ | exact ⟨_, World.drewN_drewN _ _ _⟩⟩
     · obtain rfl : k = l.length := by omega
       have HO := Lib.hid (by
         have : l = m := by
           apply List.ext_getElem HLM.out
           intro j h1 h2
           have := hall j h1
           simpa [h1, h2] using this
         simpa using this : decide (l = m) = true)
       clear hall hI hI2
       go_wp2
       go_ret
       exact ⟨by rw [HO.out]; rfl, by first | exact ⟨_, rfl⟩ | exact ⟨_, World.drewN_drewN _ _ _⟩⟩
 · have HO := Lib.hid (by
     have : ¬ l = m := fun e => hlm (by rw [e])
     simpa using this : decide (l = m) = false)
   have hne : ((l.length : Int) != (m.length : Int)) = true := by simp; omega
   have hne2 : decide ((l.length : Int) = (m.length : Int)) = false := by simp; omega
   go_enter Tryz.func50, Tryz.ntmps50
   go_wp2
   go_ret
   exact ⟨by rw [HO.out]; rfl, 0, rfl⟩
theorem lints_below (l m : List Int) (a a2 : Option Addr) (ct c2 N : Nat) (w : World) (hl : l.length ≤ maxLen) (hI : Ints N w a l) (hI2 : Ints N w a2 m) :
   Calls Tryz.prog 50 #[.slice a l.length ct, .slice a2 m.length c2] w fun e w' => e = .returned (.bool (decide (l = m))) ∧ Below w.heap.size w w' := by
 refine (lints_any l m a a2 ct c2 N w hl hI hI2).mono ?_
 rintro e w' ⟨rfl, q, rfl⟩
 exact ⟨rfl, below_drewN_ (Below.refl _ _) _⟩
end Go.Proofs.YtbmcngoeinginaaGreatDoor
