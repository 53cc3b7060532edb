/-
  Lists and Same of the reference.
-/
import Derived.Test.YtcpjkilnbhfpjaaDoorRefA
import Derived.BigQuiet
namespace Go.Proofs.YtcpjkilnbhfpjaaDoor
open Go Go.RowKit

set_option maxRecDepth 100000 in
set_option maxHeartbeats 1000000 in
theorem lists_any (ls ms : List (List Int)) (a a2 : Option Addr) (ct c2 N : Nat) (w : World) (hl : ls.length ≤ 2000) (hr : ∀ r ∈ ls, r.length ≤ 2000) (hI : Rws N w a ls) (hI2 : Rws N w a2 ms) :
    Calls Tryd.prog 22 #[.slice a ls.length ct, .slice a2 ms.length c2] w fun e w' => e = .returned (.bool (decide (ls = ms))) ∧ ∃ q, w' = w.drewN q := by
  by_cases hlm : ls.length = ms.length
  · go_enter Tryd.func22, Tryd.ntmps22
    rw [← hlm]
    have HLM := Lib.hid hlm
    clear hlm
    go_wp2
    go_loopw [5] (fun i wr => ∃ k : Nat, k ≤ ls.length ∧ i = .int .i64 k ∧ (∀ j, j < k → ls[j]?.getD [] = ms[j]?.getD []) ∧ ∃ q, wr = w.drewN q)
      (fun i _ => ls.length - (intOf i).toNat)
    case atStart => exact ⟨0, Nat.zero_le _, rfl, fun j hj => absurd hj (Nat.not_lt_zero _), 0, rfl⟩
    case round =>
      obtain ⟨k, hk, rfl, hall, q0, hwr⟩ := hrel
      have hI := hI.below (hwr ▸ below_drewN (Below.refl _ _) q0 : Below N w wr)
      have hI2 := hI2.below (hwr ▸ below_drewN (Below.refl _ _) q0 : Below N w wr)
      have HW := Lib.hid hwr
      clear hwr
      by_cases hlt : k < ls.length
      · obtain ⟨b, off, aj, cj, hab, hbN, hc, hJ⟩ := hI.at_ hlt
        obtain ⟨b2, off2, aj2, cj2, hab2, hbN2, hc2, hJ2⟩ := hI2.at_ (j := k) (by have := HLM.out; omega)
        subst hab
        subst hab2
        have HK2 := Lib.hid (show k < ms.length by have := HLM.out; omega)
        have hrk : (ls[k]?.getD []).length ≤ 2000 := by
          rw [List.getElem?_eq_getElem hlt]; exact hr _ (List.getElem_mem hlt)
        generalize hy : ls[k]?.getD [] = y at hc hJ hrk
        generalize hz : ms[k]?.getD [] = z at hc2 hJ2
        by_cases h : y = z
        · have hcall : ∀ n, Calls Tryd.prog 15 #[.slice aj y.length cj, .slice aj2 z.length cj2] (wr.drewN n) fun e w' => e = .returned (.bool true) ∧ ∃ m, w' = (wr.drewN n).drewN m := fun n => by
            refine (ints_any y z aj aj2 cj cj2 N _ hrk (hJ.below (below_drewN (Below.refl _ _) _)) (hJ2.below (below_drewN (Below.refl _ _) _))).mono ?_
            rintro e w' ⟨rfl, q, rfl⟩
            exact ⟨by simp [h], q, rfl⟩
          have HC := Lib.hid hcall
          have HA := Lib.hid hall
          have HY := Lib.hid hy
          have HZ := Lib.hid hz
          have HH := Lib.hid h
          clear hall hy hz hI hI2 hr h hcall
          go_wp2_with fail
          go_quiet ((go_at_call 15; exact Calls.quiet_of (HC.out _)))
          go_wp2
          go_roundw
          case rel => exact ⟨k + 1, by omega, by simp, fun j hj => by
            by_cases e : j = k
            · rw [e, HY.out, HZ.out]; exact HH.out
            · exact HA.out j (by omega), by rw [HW.out]; exact ⟨_, World.drewN_drewN _ _ _⟩⟩
          case measure => simp [intOf]; omega
        · have hcall : ∀ n, Calls Tryd.prog 15 #[.slice aj y.length cj, .slice aj2 z.length cj2] (wr.drewN n) fun e w' => e = .returned (.bool false) ∧ ∃ m, w' = (wr.drewN n).drewN m := fun n => by
            refine (ints_any y z aj aj2 cj cj2 N _ hrk (hJ.below (below_drewN (Below.refl _ _) _)) (hJ2.below (below_drewN (Below.refl _ _) _))).mono ?_
            rintro e w' ⟨rfl, q, rfl⟩
            exact ⟨by simp [h], q, rfl⟩
          have HC := Lib.hid hcall
          have HO := Lib.hid (by
            have : ¬ ls = ms := fun e => h (by rw [← hy, ← hz, e])
            simpa using this : decide (ls = ms) = false)
          clear hall hy hz hI hI2 hr h hcall
          go_wp2_with fail
          go_quiet ((go_at_call 15; exact Calls.quiet_of (HC.out _)))
          go_wp2
          go_ret
          exact ⟨by rw [HO.out]; rfl, by rw [HW.out]; exact ⟨_, World.drewN_drewN _ _ _⟩⟩
      · obtain rfl : k = ls.length := by omega
        have HO := Lib.hid (by
          have : ls = ms := by
            apply List.ext_getElem HLM.out
            intro j h1 h2
            have := hall j h1
            simpa [h1, h2] using this
          simpa using this : decide (ls = ms) = true)
        clear hall hI hI2 hr
        go_wp2
        go_ret
        exact ⟨by rw [HO.out]; rfl, _, HW.out⟩
  · have HO := Lib.hid (by
      have : ¬ ls = ms := fun e => hlm (by rw [e])
      simpa using this : decide (ls = ms) = false)
    have hne : ((ls.length : Int) != (ms.length : Int)) = true := by simp; omega
    have hne2 : decide ((ls.length : Int) = (ms.length : Int)) = false := by simp; omega
    go_enter Tryd.func22, Tryd.ntmps22
    go_wp2
    go_ret
    exact ⟨by rw [HO.out]; rfl, 0, rfl⟩

def sameS (A B : Brd) : Bool := decide (A.cells = B.cells) && (decide (A.next = B.next) && decide (A.turn = B.turn))
theorem sameS_refl (A : Brd) : sameS A A = true := by simp [sameS]

set_option maxRecDepth 100000 in
set_option maxHeartbeats 1000000 in
theorem same_any (A B : Brd) (an at_ an2 at2 : Option Addr) (cn ct cn2 ct2 N : Nat) (w : World) (hN : N ≤ w.heap.size) (hl : A.next.length ≤ 2000) (hr : ∀ r ∈ A.next, r.length ≤ 2000) (ht : A.turn.length ≤ 2000) (hA : Held N w an at_ A) (hB : Held N w an2 at2 B) :
    Calls Tryd.prog 27 #[A.val an cn at_ ct, B.val an2 cn2 at2 ct2] w fun e w' => e = .returned (.bool (sameS A B)) ∧ Below w.heap.size w w' := by
  have hlists : ∀ W : World, Below w.heap.size w W → Calls Tryd.prog 22 #[.slice an A.next.length cn, .slice an2 B.next.length cn2] W fun e w' => e = .returned (.bool (decide (A.next = B.next))) ∧ ∃ q, w' = W.drewN q := fun W hW => lists_any _ _ _ _ _ _ N W hl hr (hA.up hN hW).1 (hB.up hN hW).1
  have hints : ∀ W : World, Below w.heap.size w W → Calls Tryd.prog 15 #[.slice at_ A.turn.length ct, .slice at2 B.turn.length ct2] W fun e w' => e = .returned (.bool (decide (A.turn = B.turn))) ∧ ∃ q, w' = W.drewN q := fun W hW => ints_any _ _ _ _ _ _ N W ht (hA.up hN hW).2 (hB.up hN hW).2
  by_cases h1 : A.cells = B.cells
  · have e1 : (A.cells == B.cells) = true := by simpa using h1
    have e1' : decide (A.cells = B.cells) = true := by simpa using h1
    by_cases h2 : A.next = B.next
    · have HO := Lib.hid (by simp [sameS, h1, h2] : sameS A B = decide (A.turn = B.turn))
      rw [show decide (A.next = B.next) = true by simpa using h2] at hlists
      clear h1 h2 hr
      go_enter Tryd.func27, Tryd.ntmps27
      go_wp2_with (first | (go_at_call 22; refine (hlists _ (by (repeat (first | exact Below.refl _ _ | assumption | refine below_alloc ?_ _ | refine Below.drew ?_ | refine below_drewN_ ?_ _ | refine below_step ?_ (by assumption))))).mono ?_; rintro e w' ⟨rfl, q, rfl⟩) | (go_at_call 15; refine (hints _ (by (repeat (first | exact Below.refl _ _ | assumption | refine below_alloc ?_ _ | refine Below.drew ?_ | refine below_drewN_ ?_ _ | refine below_step ?_ (by assumption))))).mono ?_; rintro e w' ⟨rfl, q2, rfl⟩))
      go_ret
      exact ⟨by rw [HO.out]; rfl, by (repeat (first | exact Below.refl _ _ | assumption | refine below_alloc ?_ _ | refine Below.drew ?_ | refine below_drewN_ ?_ _ | refine below_step ?_ (by assumption)))⟩
    · have HO := Lib.hid (by simp [sameS, h2] : sameS A B = false)
      rw [show decide (A.next = B.next) = false by simpa using h2] at hlists
      clear h1 h2 hr
      go_enter Tryd.func27, Tryd.ntmps27
      go_wp2_with (first | (go_at_call 22; refine (hlists _ (by (repeat (first | exact Below.refl _ _ | assumption | refine below_alloc ?_ _ | refine Below.drew ?_ | refine below_drewN_ ?_ _ | refine below_step ?_ (by assumption))))).mono ?_; rintro e w' ⟨rfl, q, rfl⟩))
      go_ret
      exact ⟨by rw [HO.out]; rfl, by (repeat (first | exact Below.refl _ _ | assumption | refine below_alloc ?_ _ | refine Below.drew ?_ | refine below_drewN_ ?_ _ | refine below_step ?_ (by assumption)))⟩
  · have HO := Lib.hid (by simp [sameS, h1] : sameS A B = false)
    have e1 : (A.cells == B.cells) = false := by simpa using h1
    have e1' : decide (A.cells = B.cells) = false := by simpa using h1
    clear h1 hr
    go_enter Tryd.func27, Tryd.ntmps27
    go_wp2
    go_ret
    exact ⟨by rw [HO.out]; rfl, by (repeat (first | exact Below.refl _ _ | assumption | refine below_alloc ?_ _ | refine Below.drew ?_ | refine below_drewN_ ?_ _ | refine below_step ?_ (by assumption)))⟩
end Go.Proofs.YtcpjkilnbhfpjaaDoor
