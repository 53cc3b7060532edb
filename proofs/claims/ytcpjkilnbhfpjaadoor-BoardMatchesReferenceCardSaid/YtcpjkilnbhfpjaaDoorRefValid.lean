/-
  Valid of the reference, for all boards.
-/
import Derived.Test.YtcpjkilnbhfpjaaDoorPartsW
namespace Go.Proofs.YtcpjkilnbhfpjaaDoor
open Go Go.RowKit

theorem turn_bad {B : Brd} {k : Nat} (hk : k < B.next.length) (h : okTurn B.turn B.next.length k = false) : validS B = false := by
  have := turn_no hk h
  simp [validS, this]

theorem row_ent {n : Int} {r : List Int} (hl : (r.length : Int) = n) (h : ∀ j, j < r.length → -1 ≤ r[j]?.getD 0 ∧ r[j]?.getD 0 < n) : rowOk n r = true := by
  unfold rowOk
  simp only [Bool.and_eq_true, decide_eq_true_eq, Bool.not_eq_true', List.any_eq_false]
  refine ⟨hl, fun x hx => ?_⟩
  obtain ⟨j, hj⟩ := List.getElem?_of_mem hx
  have hjl := (List.getElem?_eq_some_iff.1 hj).1
  have := h j hjl
  rw [hj, Option.getD_some] at this
  unfold outS
  simp only [Bool.or_eq_true, decide_eq_true_eq]
  omega

theorem row_out {n : Int} {r : List Int} {j : Nat} (hj : j < r.length) (h : r[j]?.getD 0 < -1 ∨ n ≤ r[j]?.getD 0) : rowOk n r = false := by
  unfold rowOk
  rw [Bool.and_eq_false_iff]
  right
  simp only [Bool.not_eq_false', List.any_eq_true]
  refine ⟨r[j], List.getElem_mem hj, ?_⟩
  rw [List.getElem?_eq_getElem hj, Option.getD_some] at h
  unfold outS
  simp only [Bool.or_eq_true, decide_eq_true_eq]
  exact h

set_option maxRecDepth 100000 in
set_option maxHeartbeats 4000000 in
theorem refValid_any (B : Brd) (an at_ : Option Addr) (cn ct N : Nat) (w : World) (hN : N ≤ w.heap.size) (hH : Held N w an at_ B) :
    Calls Tryd.prog 29 #[B.val an cn at_ ct] w fun e w' => e = .returned (.bool (validS B)) ∧ Below w.heap.size w w' := by
  by_cases h1 : B.cells < 1
  · have HO := Lib.hid (by simp [validS]; omega : validS B = false)
    go_enter Tryd.func29, Tryd.ntmps29
    go_wp2
    go_ret
    exact ⟨by rw [HO.out]; rfl, by (repeat (first | exact Below.refl _ _ | assumption | refine below_alloc ?_ _ | refine Below.drew ?_ | refine below_drewN_ ?_ _ | refine below_step ?_ (by assumption)))⟩
  have h1' : decide (B.cells < 1) = false := by simpa using h1
  by_cases h2 : 64 < B.cells
  · have HO := Lib.hid (by simp [validS]; omega : validS B = false)
    go_enter Tryd.func29, Tryd.ntmps29
    go_wp2
    go_ret
    exact ⟨by rw [HO.out]; rfl, by (repeat (first | exact Below.refl _ _ | assumption | refine below_alloc ?_ _ | refine Below.drew ?_ | refine below_drewN_ ?_ _ | refine below_step ?_ (by assumption)))⟩
  have h2' : decide (64 < B.cells) = false := by simpa using h2
  by_cases h3 : B.next.length < 1
  · have HO := Lib.hid (by simp [validS]; omega : validS B = false)
    have h3' : decide ((B.next.length : Int) < 1) = true := by simp; omega
    go_enter Tryd.func29, Tryd.ntmps29
    go_wp2
    go_ret
    exact ⟨by rw [HO.out]; rfl, by (repeat (first | exact Below.refl _ _ | assumption | refine below_alloc ?_ _ | refine Below.drew ?_ | refine below_drewN_ ?_ _ | refine below_step ?_ (by assumption)))⟩
  have h3' : decide ((B.next.length : Int) < 1) = false := by simp; omega
  by_cases h4 : 8 < B.next.length
  · have HO := Lib.hid (by simp [validS]; omega : validS B = false)
    have h4' : decide ((8 : Int) < (B.next.length : Int)) = true := by simp; omega
    go_enter Tryd.func29, Tryd.ntmps29
    go_wp2
    go_ret
    exact ⟨by rw [HO.out]; rfl, by (repeat (first | exact Below.refl _ _ | assumption | refine below_alloc ?_ _ | refine Below.drew ?_ | refine below_drewN_ ?_ _ | refine below_step ?_ (by assumption)))⟩
  have h4' : decide ((8 : Int) < (B.next.length : Int)) = false := by simp; omega
  by_cases h5 : B.turn.length = B.next.length
  · have h5' : ((B.turn.length : Int) != (B.next.length : Int)) = false := by simp [h5]
    have h1n : 1 ≤ B.cells := by omega
    have h2n : B.cells ≤ 64 := by omega
    have h4n : B.next.length ≤ 8 := by omega
    have HT := Lib.hid h5
    clear h5
    go_enter Tryd.func29, Tryd.ntmps29
    go_wp2
    obtain ⟨w1, hw1⟩ : ∃ w1, w.alloc (Obj.cells #[Value.int IntKind.i64 B.cells, Value.slice an B.next.length cn, Value.slice at_ B.turn.length ct] 31) = w1 := ⟨_, rfl⟩
    have hs1 : w1.heap.size = w.heap.size + 1 := by rw [← hw1]; simp
    have hB1 : Below w.heap.size w w1 := by rw [← hw1]; (repeat (first | exact Below.refl _ _ | assumption | refine below_alloc ?_ _ | refine Below.drew ?_ | refine below_drewN_ ?_ _ | refine below_step ?_ (by assumption)))
    have k0 : w1.cell? ⟨w.heap.size, 0, none⟩ = some (.int .i64 B.cells) := by rw [← hw1]; exact cell_new_at _ _ _ _ _ _ rfl rfl
    have k1 : w1.cell? ⟨w.heap.size, 1, none⟩ = some (.slice an B.next.length cn) := by rw [← hw1]; exact cell_new_at _ _ _ _ _ _ rfl rfl
    have k2 : w1.cell? ⟨w.heap.size, 2, none⟩ = some (.slice at_ B.turn.length ct) := by rw [← hw1]; exact cell_new_at _ _ _ _ _ _ rfl rfl
    have hH1 := hH.up hN hB1
    rw [hw1]
    clear hw1
    have HS1 := Lib.hid hs1
    have hN1 : N ≤ w1.heap.size := by omega
    clear hs1 hH
    go_loopw [4] (fun i wr => ∃ k : Nat, k ≤ B.next.length ∧ i = .int .i64 k ∧ (∀ j, j < k → rowOk B.cells (B.next[j]?.getD []) = true ∧ okTurn B.turn B.next.length j = true) ∧ Below w1.heap.size w1 wr)
      (fun i _ => B.next.length - (intOf i).toNat)
    case atStart => exact ⟨0, Nat.zero_le _, rfl, fun j hj => absurd hj (Nat.not_lt_zero _), Below.refl _ _⟩
    case round =>
      obtain ⟨k, hk, rfl, hall, hbr⟩ := hrel
      have c0 := cell_keep hbr k0
      have c1 := cell_keep hbr k1
      have c2 := cell_keep hbr k2
      have hHr := hH1.up hN1 hbr
      by_cases hlt : k < B.next.length
      · obtain ⟨b, off, aj, cj, hab, hbN, hc, hI⟩ := hHr.1.at_ hlt
        subst hab
        generalize hr : B.next[k]?.getD [] = r at hc hI
        by_cases hl : (r.length : Int) = B.cells
        · have hl' : ((r.length : Int) != B.cells) = false := by simpa using hl
          obtain ⟨b2, off2, hat, hb2, hct⟩ := hHr.2.at_ (j := k) (by have := HT.out; omega)
          subst hat
          have hkt : k < B.turn.length := by have := HT.out; omega
          generalize hx : B.turn[k]?.getD 0 = x at hct
          by_cases t1 : x < 0
          · have HO := Lib.hid (turn_bad hlt (by simp [okTurn, hx]; omega) : validS B = false)
            clear hx hl
            clear hall hr hI hHr hH1
            go_wp2_with fail
            go_quiet (fail)
            go_wp2
            go_ret
            exact ⟨by rw [HO.out]; rfl, by have := below_step hB1 hbr; (repeat (first | exact Below.refl _ _ | assumption | refine below_alloc ?_ _ | refine Below.drew ?_ | refine below_drewN_ ?_ _ | refine below_step ?_ (by assumption)))⟩
          have t1' : decide (x < 0) = false := by simpa using t1
          by_cases t2 : (B.next.length : Int) ≤ x
          · have HO := Lib.hid (turn_bad hlt (by simp [okTurn, hx]; omega) : validS B = false)
            clear hx hl
            clear hall hr hI hHr hH1
            go_wp2_with fail
            go_quiet (fail)
            go_wp2
            go_ret
            exact ⟨by rw [HO.out]; rfl, by have := below_step hB1 hbr; (repeat (first | exact Below.refl _ _ | assumption | refine below_alloc ?_ _ | refine Below.drew ?_ | refine below_drewN_ ?_ _ | refine below_step ?_ (by assumption)))⟩
          have t2' : decide ((B.next.length : Int) ≤ x) = false := by simpa using t2
          obtain ⟨m, rfl⟩ := Int.eq_ofNat_of_zero_le (show 0 ≤ x by omega)
          have hmt : m < B.turn.length := by have := HT.out; omega
          obtain ⟨b3, off3, hat3, hb3, hct3⟩ := hHr.2.at_ (j := m) hmt
          cases hat3
          generalize hy : B.turn[m]?.getD 0 = y at hct3
          have t2n : decide (B.next.length ≤ m) = false := by simp; omega
          have hmn : m < B.next.length := by omega
          by_cases t3 : y = (k : Int)
          · have t3' : (y != (k : Int)) = false := by simpa using t3
            have HOT := Lib.hid (by simp [okTurn, hx, hy, t3]; omega : okTurn B.turn B.next.length k = true)
            have HA := Lib.hid hall
            have HR := Lib.hid hr
            have HL := Lib.hid hl
            have hN2 : N ≤ wr.heap.size := by have := hbr.size; omega
            clear hall hr hl hx hy t3
            go_wp2_with fail
            go_quiet (fail)
            go_wp2
            generalize hwq : wr.drewN _ = wq
            have hbq : Below w1.heap.size w1 wq := by rw [← hwq]; exact below_drewN_ hbr _
            clear hwq c0 c1 c2 hc hct hct3 hI hHr
            go_loopw [5] (fun i wi => ∃ c : Nat, (c : Int) ≤ B.cells ∧ i = .int .i64 c ∧ (∀ j, j < c → -1 ≤ r[j]?.getD 0 ∧ r[j]?.getD 0 < B.cells) ∧ Below w1.heap.size w1 wi)
              (fun i _ => B.cells.toNat - (intOf i).toNat)
            case atStart => exact ⟨0, by omega, rfl, fun j hj => absurd hj (Nat.not_lt_zero _), hbq⟩
            case round =>
              obtain ⟨c, hcle, rfl, hcall, hbi⟩ := hrel
              have c0 := cell_keep hbi k0
              have c1 := cell_keep hbi k1
              have c2 := cell_keep hbi k2
              by_cases hcc : (c : Int) < B.cells
              · obtain ⟨b', off', aj', cj', hab, hbN', hc, hI⟩ := (hH1.up hN1 hbi).1.at_ hlt
                cases hab
                rw [HR.out] at hc hI
                have hcr : c < r.length := by have := HL.out; omega
                obtain ⟨b4, off4, haj, hb4, hc4⟩ := hI.at_ hcr
                subst haj
                generalize hz : r[c]?.getD 0 = z at hc4
                by_cases z1 : z < -1
                · have HO := Lib.hid (row_no hlt (by rw [HR.out]; exact row_out hcr (.inl (by rw [hz]; exact z1))) : validS B = false)
                  clear hz
                  clear hcall hI
                  go_wp2_with fail
                  go_quiet (fail)
                  go_wp2
                  go_ret
                  exact ⟨by rw [HO.out]; rfl, by have := below_step hB1 hbi; (repeat (first | exact Below.refl _ _ | assumption | refine below_alloc ?_ _ | refine Below.drew ?_ | refine below_drewN_ ?_ _ | refine below_step ?_ (by assumption)))⟩
                have z1' : decide (z < -1) = false := by simpa using z1
                by_cases z2 : B.cells ≤ z
                · have HO := Lib.hid (row_no hlt (by rw [HR.out]; exact row_out hcr (.inr (by rw [hz]; exact z2))) : validS B = false)
                  clear hz
                  clear hcall hI
                  go_wp2_with fail
                  go_quiet (fail)
                  go_wp2
                  go_ret
                  exact ⟨by rw [HO.out]; rfl, by have := below_step hB1 hbi; (repeat (first | exact Below.refl _ _ | assumption | refine below_alloc ?_ _ | refine Below.drew ?_ | refine below_drewN_ ?_ _ | refine below_step ?_ (by assumption)))⟩
                have z2' : decide (B.cells ≤ z) = false := by simpa using z2
                have HZ := Lib.hid hz
                have HC := Lib.hid hcall
                clear hz hcall hI
                go_wp2_with fail
                go_quiet (fail)
                go_wp2
                go_roundw
                case rel => exact ⟨c + 1, by omega, by simp, fun j hj => by
                  by_cases e : j = c
                  · rw [e, HZ.out]; omega
                  · exact HC.out j (by omega), below_drewN_ hbi _⟩
                case measure => simp [intOf]; omega
              · have HC := Lib.hid (row_ent HL.out (fun j hj => hcall j (by have := HL.out; omega)) : rowOk B.cells r = true)
                clear hcall
                go_wp2
                go_roundw
                case rel => exact ⟨k + 1, by omega, by simp, fun j hj => by
                  by_cases e : j = k
                  · rw [e, HR.out]; exact ⟨HC.out, HOT.out⟩
                  · exact HA.out j (by omega), hbi⟩
                case measure => simp [intOf]; omega
          · have t3' : (y != (k : Int)) = true := by simpa using t3
            have HO := Lib.hid (turn_bad hlt (by simp [okTurn, hx, hy, t3]) : validS B = false)
            clear hx hl hy
            clear hall hr hI hHr hH1
            go_wp2_with fail
            go_quiet (fail)
            go_wp2
            go_ret
            exact ⟨by rw [HO.out]; rfl, by have := below_step hB1 hbr; (repeat (first | exact Below.refl _ _ | assumption | refine below_alloc ?_ _ | refine Below.drew ?_ | refine below_drewN_ ?_ _ | refine below_step ?_ (by assumption)))⟩
        · have hl' : ((r.length : Int) != B.cells) = true := by simpa using hl
          have HO := Lib.hid (row_no hlt (by rw [hr]; simp [rowOk, hl]) : validS B = false)
          clear hall hr hI hHr hH1
          go_wp2_with fail
          go_quiet (fail)
          go_wp2
          go_ret
          exact ⟨by rw [HO.out]; rfl, by have := below_step hB1 hbr; (repeat (first | exact Below.refl _ _ | assumption | refine below_alloc ?_ _ | refine Below.drew ?_ | refine below_drewN_ ?_ _ | refine below_step ?_ (by assumption)))⟩
      · obtain rfl : k = B.next.length := by omega
        have HO := Lib.hid (by
          have e1 : B.next.all (rowOk B.cells) = true := by
            rw [List.all_eq_true]
            intro r hr
            obtain ⟨i, hi⟩ := List.getElem?_of_mem hr
            have := (hall i (List.getElem?_eq_some_iff.1 hi).1).1
            rwa [hi] at this
          have e2 : turnS B.turn B.next.length = true := by
            rw [← HT.out]
            exact turn_yes (fun j hj => by rw [HT.out]; exact (hall j (by have := HT.out; omega)).2)
          simp [validS, e1, e2]; omega : validS B = true)
        clear hall
        go_wp2
        go_ret
        exact ⟨by rw [HO.out]; rfl, by have := below_step hB1 hbr; (repeat (first | exact Below.refl _ _ | assumption | refine below_alloc ?_ _ | refine Below.drew ?_ | refine below_drewN_ ?_ _ | refine below_step ?_ (by assumption)))⟩
  · have HO := Lib.hid (by
      have : turnS B.turn B.next.length = false := by simp [turnS, h5]
      simp [validS, this] : validS B = false)
    have h5' : ((B.turn.length : Int) != (B.next.length : Int)) = true := by simp; omega
    go_enter Tryd.func29, Tryd.ntmps29
    go_wp2
    go_ret
    exact ⟨by rw [HO.out]; rfl, by (repeat (first | exact Below.refl _ _ | assumption | refine below_alloc ?_ _ | refine Below.drew ?_ | refine below_drewN_ ?_ _ | refine below_step ?_ (by assumption)))⟩
end Go.Proofs.YtcpjkilnbhfpjaaDoor
