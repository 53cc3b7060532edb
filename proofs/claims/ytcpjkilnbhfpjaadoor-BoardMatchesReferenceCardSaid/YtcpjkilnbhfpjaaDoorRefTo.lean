/-
  To of the reference, for boards whose lists fit.
-/
import Derived.Test.YtcpjkilnbhfpjaaDoorTo
import Derived.Test.YtcpjkilnbhfpjaaDoorLib
namespace Go.Proofs.YtcpjkilnbhfpjaaDoor
open Go Go.RowKit

theorem toS_none {B : Brd} (hB : B.Ok) {side d c : Int} (h : side < 0 ∨ 1 < side ∨ d < 0 ∨ (B.next.length : Int) ≤ d ∨ c < 0 ∨ B.cells ≤ c) : toS B side d c = -1 := by
  have ht := hB.turn
  unfold toS nextS meantS
  split
  · rw [if_neg (by omega)]
  · rw [if_neg (by omega)]

theorem toS_zero {B : Brd} (hB : B.Ok) {d c : Nat} (hd : d < B.next.length) (hc : (c : Int) < B.cells) : toS B 0 d c = (B.next[d]?.getD [])[c]?.getD 0 := by
  have ht := hB.turn
  have hm : meantS B.turn 0 d = d := by
    unfold meantS
    rw [if_neg (by omega), if_neg (by omega)]
  unfold toS
  rw [hm]
  unfold nextS
  rw [if_pos (by omega)]
  rfl

theorem toS_one {B : Brd} (hB : B.Ok) {d c e : Nat} (hd : d < B.next.length) (hc : (c : Int) < B.cells) (he : B.turn[d]?.getD 0 = (e : Int)) (hen : e < B.next.length) : toS B 1 d c = (B.next[e]?.getD [])[c]?.getD 0 := by
  have ht := hB.turn
  have hm : meantS B.turn 1 d = e := by
    unfold meantS
    rw [if_neg (by omega), if_pos rfl, Int.toNat_natCast, he]
  unfold toS
  rw [hm]
  unfold nextS
  rw [if_pos (by omega)]
  rfl

set_option maxRecDepth 100000 in
set_option maxHeartbeats 2000000 in
theorem refTo_any (B : Brd) (hB : B.Ok) (an at_ : Option Addr) (cn ct : Nat) (side d c : Int) (N : Nat) (w : World) (hN : N ≤ w.heap.size) (hH : Held N w an at_ B) :
    Calls Tryd.prog 14 #[B.val an cn at_ ct, .int .i64 side, .int .i64 d, .int .i64 c] w fun e w' => e = .returned (.int .i64 (toS B side d c)) ∧ Below w.heap.size w w' := by
  have hhi := hB.hi
  have hdirs := hB.dirs
  by_cases h1 : side < 0
  · have HO := Lib.hid (toS_none hB (.inl h1) : toS B side d c = -1)
    go_enter Tryd.func14, Tryd.ntmps14
    go_wp2
    go_ret
    exact ⟨by rw [HO.out]; rfl, by (repeat (first | exact Below.refl _ _ | assumption | refine below_alloc ?_ _ | refine Below.drew ?_ | refine below_drewN_ ?_ _ | refine below_step ?_ (by assumption)))⟩
  have h1' : decide (side < 0) = false := by simpa using h1
  by_cases h2 : 1 < side
  · have HO := Lib.hid (toS_none hB (.inr (.inl h2)) : toS B side d c = -1)
    go_enter Tryd.func14, Tryd.ntmps14
    go_wp2
    go_ret
    exact ⟨by rw [HO.out]; rfl, by (repeat (first | exact Below.refl _ _ | assumption | refine below_alloc ?_ _ | refine Below.drew ?_ | refine below_drewN_ ?_ _ | refine below_step ?_ (by assumption)))⟩
  have h2' : decide (1 < side) = false := by simpa using h2
  by_cases h3 : d < 0
  · have HO := Lib.hid (toS_none hB (.inr (.inr (.inl h3))) : toS B side d c = -1)
    go_enter Tryd.func14, Tryd.ntmps14
    go_wp2
    go_ret
    exact ⟨by rw [HO.out]; rfl, by (repeat (first | exact Below.refl _ _ | assumption | refine below_alloc ?_ _ | refine Below.drew ?_ | refine below_drewN_ ?_ _ | refine below_step ?_ (by assumption)))⟩
  obtain ⟨d, rfl⟩ := Int.eq_ofNat_of_zero_le (show 0 ≤ d by omega)
  have h3' : decide ((d : Int) < 0) = false := by simp
  by_cases h4 : (B.next.length : Int) ≤ d
  · have HO := Lib.hid (toS_none hB (.inr (.inr (.inr (.inl h4)))) : toS B side d c = -1)
    go_enter Tryd.func14, Tryd.ntmps14
    go_wp2
    go_ret
    exact ⟨by rw [HO.out]; rfl, by (repeat (first | exact Below.refl _ _ | assumption | refine below_alloc ?_ _ | refine Below.drew ?_ | refine below_drewN_ ?_ _ | refine below_step ?_ (by assumption)))⟩
  have h4' : decide ((B.next.length : Int) ≤ (d : Int)) = false := by simpa using h4
  by_cases h5 : c < 0
  · have HO := Lib.hid (toS_none hB (.inr (.inr (.inr (.inr (.inl h5))))) : toS B side d c = -1)
    go_enter Tryd.func14, Tryd.ntmps14
    go_wp2
    go_ret
    exact ⟨by rw [HO.out]; rfl, by (repeat (first | exact Below.refl _ _ | assumption | refine below_alloc ?_ _ | refine Below.drew ?_ | refine below_drewN_ ?_ _ | refine below_step ?_ (by assumption)))⟩
  obtain ⟨c, rfl⟩ := Int.eq_ofNat_of_zero_le (show 0 ≤ c by omega)
  have h5' : decide ((c : Int) < 0) = false := by simp
  by_cases h6 : B.cells ≤ c
  · have HO := Lib.hid (toS_none hB (.inr (.inr (.inr (.inr (.inr h6))))) : toS B side d c = -1)
    go_enter Tryd.func14, Tryd.ntmps14
    go_wp2
    go_ret
    exact ⟨by rw [HO.out]; rfl, by (repeat (first | exact Below.refl _ _ | assumption | refine below_alloc ?_ _ | refine Below.drew ?_ | refine below_drewN_ ?_ _ | refine below_step ?_ (by assumption)))⟩
  have h6' : decide (B.cells ≤ (c : Int)) = false := by simpa using h6
  have hd : d < B.next.length := by omega
  by_cases h7 : side = 1
  · subst h7
    have ht := hB.turn
    have htl := hB.tlo d (by omega)
    obtain ⟨b0, off0, hat, hb0, hct⟩ := hH.2.at_ (j := d) (by omega)
    subst hat
    obtain ⟨e, he⟩ := Int.eq_ofNat_of_zero_le htl.1
    have hen : e < B.next.length := by omega
    have HO := Lib.hid (toS_one (c := c) hB hd (by omega) he hen)
    rw [he] at hct
    obtain ⟨b, off, aj, cj, han, hbN, hcr, hI⟩ := hH.1.at_ hen
    subst han
    have hrl := hB.row e hen
    generalize B.next[e]?.getD [] = r at hcr hI hrl HO
    obtain ⟨b2, off2, haj, hb2, hcc⟩ := hI.at_ (j := c) (by omega)
    subst haj
    generalize r[c]?.getD 0 = y at hcc HO
    have hcl : c < r.length := by omega
    have HT := Lib.hid ht
    have hdt : d < B.turn.length := by omega
    have g0 : b0 < w.heap.size := by omega
    have g1 : b < w.heap.size := by omega
    have g2 : b2 < w.heap.size := by omega
    clear hrl ht htl he hI hH
    go_enter Tryd.func14, Tryd.ntmps14
    go_wp2
    go_ret
    exact ⟨by rw [HO.out]; rfl, by (repeat (first | exact Below.refl _ _ | assumption | refine below_alloc ?_ _ | refine Below.drew ?_ | refine below_drewN_ ?_ _ | refine below_step ?_ (by assumption)))⟩
  · obtain rfl : side = 0 := by omega
    have HO := Lib.hid (toS_zero hB hd (by omega) : toS B 0 d c = _)
    obtain ⟨b, off, aj, cj, han, hbN, hcr, hI⟩ := hH.1.at_ hd
    subst han
    have hrl := hB.row d hd
    generalize B.next[d]?.getD [] = r at hcr hI hrl HO
    obtain ⟨b2, off2, haj, hb2, hcc⟩ := hI.at_ (j := c) (by omega)
    subst haj
    generalize r[c]?.getD 0 = y at hcc HO
    have hcl : c < r.length := by omega
    have g1 : b < w.heap.size := by omega
    have g2 : b2 < w.heap.size := by omega
    clear hrl hI hH h7
    go_enter Tryd.func14, Tryd.ntmps14
    go_wp2
    go_ret
    exact ⟨by rw [HO.out]; rfl, by (repeat (first | exact Below.refl _ _ | assumption | refine below_alloc ?_ _ | refine Below.drew ?_ | refine below_drewN_ ?_ _ | refine below_step ?_ (by assumption)))⟩
end Go.Proofs.YtcpjkilnbhfpjaaDoor
