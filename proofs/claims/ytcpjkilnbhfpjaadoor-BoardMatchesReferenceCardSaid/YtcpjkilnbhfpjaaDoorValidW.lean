/-
  Valid of the package board, for all boards.
-/
import Derived.Test.YtcpjkilnbhfpjaaDoorValid
import Derived.Test.YtcpjkilnbhfpjaaDoorLib
namespace Go.Proofs.YtcpjkilnbhfpjaaDoor
open Go Go.RowKit

def outS (n c : Int) : Bool := decide (c < -1) || decide (n ≤ c)
def rowOk (n : Int) (row : List Int) : Bool := decide ((row.length : Int) = n) && !(row.any (outS n))
def validS (B : Brd) : Bool := decide (1 ≤ B.cells) && decide (B.cells ≤ 64) && decide (1 ≤ B.next.length) && decide (B.next.length ≤ 8) && B.next.all (rowOk B.cells) && turnS B.turn B.next.length

theorem outside_gives (n c : Int) (Bb : Nat) (W : World) (hb : W.cell? ⟨Bb, 0, none⟩ = some (.int .i64 n)) :
    Go.Proofs.FnGives Tryd.prog 48 #[.pointer (some ⟨Bb, 0, none⟩)] #[.int .i64 c] (.bool (outS n c)) W := by
  show Calls Tryd.prog 48 #[.int .i64 c, .pointer (some ⟨Bb, 0, none⟩)] W _
  unfold outS
  by_cases h : c < -1
  · go_enter Tryd.func48, Tryd.ntmps48
    go_wp2
    go_ret
    exact ⟨by simp [h], 0, rfl⟩
  · have h' : decide (c < -1) = false := by simpa using h
    rw [h']
    go_enter Tryd.func48, Tryd.ntmps48
    go_wp2
    go_ret
    exact ⟨by simp, 0, rfl⟩

theorem row_no {B : Brd} {k : Nat} (hk : k < B.next.length) (h : rowOk B.cells (B.next[k]?.getD []) = false) : validS B = false := by
  have : B.next.all (rowOk B.cells) = false := by
    rw [List.all_eq_false]
    exact ⟨B.next[k], List.getElem_mem hk, by simpa [hk] using h⟩
  simp [validS, this]

set_option maxRecDepth 100000 in
set_option maxHeartbeats 2000000 in
theorem valid_all (B : Brd) (an at_ : Option Addr) (cn ct N : Nat) (w : World) (hN : N ≤ w.heap.size) (hH : Held N w an at_ B) :
    Calls Tryd.prog 28 #[B.val an cn at_ ct] w fun e w' => e = .returned (.bool (validS B)) ∧ Below w.heap.size w w' := by
  by_cases h1 : B.cells < 1
  · have HO := Lib.hid (by simp [validS]; omega : validS B = false)
    go_enter Tryd.func28, Tryd.ntmps28
    go_wp2
    go_ret
    exact ⟨by rw [HO.out]; rfl, by (repeat (first | exact Below.refl _ _ | assumption | refine below_alloc ?_ _ | refine Below.drew ?_ | refine below_drewN_ ?_ _ | refine below_step ?_ (by assumption)))⟩
  have h1' : decide (B.cells < 1) = false := by simpa using h1
  by_cases h2 : 64 < B.cells
  · have HO := Lib.hid (by simp [validS]; omega : validS B = false)
    go_enter Tryd.func28, Tryd.ntmps28
    go_wp2
    go_ret
    exact ⟨by rw [HO.out]; rfl, by (repeat (first | exact Below.refl _ _ | assumption | refine below_alloc ?_ _ | refine Below.drew ?_ | refine below_drewN_ ?_ _ | refine below_step ?_ (by assumption)))⟩
  have h2' : decide (64 < B.cells) = false := by simpa using h2
  by_cases h3 : B.next.length < 1
  · have HO := Lib.hid (by simp [validS]; omega : validS B = false)
    have h3' : decide ((B.next.length : Int) < 1) = true := by simp; omega
    go_enter Tryd.func28, Tryd.ntmps28
    go_wp2
    go_ret
    exact ⟨by rw [HO.out]; rfl, by (repeat (first | exact Below.refl _ _ | assumption | refine below_alloc ?_ _ | refine Below.drew ?_ | refine below_drewN_ ?_ _ | refine below_step ?_ (by assumption)))⟩
  have h3' : decide ((B.next.length : Int) < 1) = false := by simp; omega
  by_cases h4 : 8 < B.next.length
  · have HO := Lib.hid (by simp [validS]; omega : validS B = false)
    have h4' : decide ((8 : Int) < (B.next.length : Int)) = true := by simp; omega
    go_enter Tryd.func28, Tryd.ntmps28
    go_wp2
    go_ret
    exact ⟨by rw [HO.out]; rfl, by (repeat (first | exact Below.refl _ _ | assumption | refine below_alloc ?_ _ | refine Below.drew ?_ | refine below_drewN_ ?_ _ | refine below_step ?_ (by assumption)))⟩
  have h4' : decide ((8 : Int) < (B.next.length : Int)) = false := by simp; omega
  have h1n : 1 ≤ B.cells := by omega
  have h2n : B.cells ≤ 64 := by omega
  have h3n : 1 ≤ B.next.length := by omega
  have h4n : B.next.length ≤ 8 := by omega
  go_enter Tryd.func28, Tryd.ntmps28
  go_wp2
  obtain ⟨w1, hw1⟩ : ∃ w1, w.alloc (Obj.cells #[Value.int IntKind.i64 B.cells, Value.slice an B.next.length cn, Value.slice at_ B.turn.length ct] 31) = w1 := ⟨_, rfl⟩
  have hs1 : w1.heap.size = w.heap.size + 1 := by rw [← hw1]; simp
  have hB1 : Below w.heap.size w w1 := by rw [← hw1]; (repeat (first | exact Below.refl _ _ | assumption | refine below_alloc ?_ _ | refine Below.drew ?_ | refine below_drewN_ ?_ _ | refine below_step ?_ (by assumption)))
  have k0 : w1.cell? ⟨w.heap.size, 0, none⟩ = some (.int .i64 B.cells) := by rw [← hw1]; exact cell_new_at _ _ _ _ _ _ rfl rfl
  have k1 : w1.cell? ⟨w.heap.size, 1, none⟩ = some (.slice an B.next.length cn) := by rw [← hw1]; exact cell_new_at _ _ _ _ _ _ rfl rfl
  have k2 : w1.cell? ⟨w.heap.size, 2, none⟩ = some (.slice at_ B.turn.length ct) := by rw [← hw1]; exact cell_new_at _ _ _ _ _ _ rfl rfl
  have hH1 := hH.up hN hB1
  rw [hw1]
  clear hw1
  have HS1 := Lib.hid hs1
  have hN1 : N ≤ w1.heap.size := by omega
  clear hs1
  go_loopw [29] (fun i wr => ∃ k : Nat, k ≤ B.next.length ∧ i = .int .i64 k ∧ (∀ j, j < k → rowOk B.cells (B.next[j]?.getD []) = true) ∧ Below w1.heap.size w1 wr)
    (fun i _ => B.next.length - (intOf i).toNat)
  case atStart => exact ⟨0, Nat.zero_le _, rfl, fun j hj => absurd hj (Nat.not_lt_zero _), Below.refl _ _⟩
  case round =>
    obtain ⟨k, hk, rfl, hall, hbr⟩ := hrel
    have c0 := cell_keep hbr k0
    have c1 := cell_keep hbr k1
    have c2 := cell_keep hbr k2
    have hHr := hH1.up hN1 hbr
    by_cases hlt : k < B.next.length
    · obtain ⟨b, off, aj, cj, hab, hbN, hc, hI⟩ := hHr.1.at_ hlt
      subst hab
      have hno := fun h => row_no (B := B) hlt h
      generalize hr : B.next[k]?.getD [] = r at hc hI hno
      by_cases hl : (r.length : Int) = B.cells
      · rcases hI with rfl | ⟨b2, off2, rfl, hb2, hcr⟩
        · simp at hl; omega
        have hl' : ((r.length : Int) != B.cells) = false := by simpa using hl
        have hcon := Tryd.slices_ContainsFunc (Value.int .i64) (outS B.cells) 48 #[.pointer (some ⟨w.heap.size, 0, none⟩)] (enters_of Tryd.func48 (by kernel_rfl) rfl) b2 off2 r.length cj r wr
          (fun W x hb => outside_gives B.cells x w.heap.size W (cell_keep hb c0)) (Nat.le_refl _) (by omega) (fun j hj => by rw [hcr j hj]; simp [hj])
        rw [List.take_length] at hcon
        change Calls Tryd.prog 49 _ _ _ at hcon
        have HA := Lib.hid hall
        cases hany : r.any (outS B.cells) with
        | true =>
          have HO := Lib.hid (hno (by simp [rowOk, hany]))
          rw [hany] at hcon
          clear hall hno hr hHr hcr
          go_wp2_with (go_at_call 49; refine hcon.mono ?_; rintro e w' ⟨rfl, q, rfl⟩)
          go_ret
          exact ⟨by rw [HO.out]; rfl, by have := below_step hB1 hbr; (repeat (first | exact Below.refl _ _ | assumption | refine below_alloc ?_ _ | refine Below.drew ?_ | refine below_drewN_ ?_ _ | refine below_step ?_ (by assumption)))⟩
        | false =>
          have HO := Lib.hid (by rw [hr]; simp [rowOk, hany, hl] : rowOk B.cells (B.next[k]?.getD []) = true)
          rw [hany] at hcon
          clear hall hno hr hHr hcr
          go_wp2_with (go_at_call 49; refine hcon.mono ?_; rintro e w' ⟨rfl, q, rfl⟩)
          go_roundw
          case rel => exact ⟨k + 1, by omega, by simp, fun j hj => by
            by_cases e : j = k
            · rw [e]; exact HO.out
            · exact HA.out j (by omega), below_drewN_ hbr q⟩
          case measure => simp [intOf]; omega
      · have hl' : ((r.length : Int) != B.cells) = true := by simpa using hl
        have HO := Lib.hid (hno (by simp [rowOk, hl]))
        clear hall hno hr hHr
        go_wp2
        go_ret
        exact ⟨by rw [HO.out]; rfl, by have := below_step hB1 hbr; (repeat (first | exact Below.refl _ _ | assumption | refine below_alloc ?_ _ | refine Below.drew ?_ | refine below_drewN_ ?_ _ | refine below_step ?_ (by assumption)))⟩
    · obtain rfl : k = B.next.length := by omega
      have HO := Lib.hid (by
        have : B.next.all (rowOk B.cells) = true := by
          rw [List.all_eq_true]
          intro r hr
          obtain ⟨i, hi⟩ := List.getElem?_of_mem hr
          have := hall i (List.getElem?_eq_some_iff.1 hi).1
          rwa [hi] at this
        simp [validS, this]; omega : validS B = turnS B.turn B.next.length)
      go_wp2_with (go_at_call 50; refine (turn_any B.turn B.next.length at_ ct N _ (by omega) hHr.2).mono ?_; rintro e w' ⟨rfl, rfl⟩)
      go_ret
      exact ⟨by rw [HO.out]; rfl, by have := below_step hB1 hbr; (repeat (first | exact Below.refl _ _ | assumption | refine below_alloc ?_ _ | refine Below.drew ?_ | refine below_drewN_ ?_ _ | refine below_step ?_ (by assumption)))⟩

theorem valid_any (B : Brd) (an at_ : Option Addr) (cn ct N : Nat) (w : World) (hN : N ≤ w.heap.size) (hH : Held N w an at_ B) (_ : ∀ r ∈ B.next, r.length ≤ 1000) (_ : B.turn.length ≤ 1000) :
    Calls Tryd.prog 28 #[B.val an cn at_ ct] w fun e w' => e = .returned (.bool (validS B)) ∧ Below w.heap.size w w' := valid_all B an at_ cn ct N w hN hH
end Go.Proofs.YtcpjkilnbhfpjaaDoor
