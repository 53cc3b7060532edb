/-
  Of the reference: Count, Valid, Takes.
-/
import Derived.Test.YtidgdfjnjgonoaaGreatDoorQStep
namespace Go.Proofs.YtidgdfjnjgonoaaGreatDoor
open Go Go.RowKit

set_option maxRecDepth 100000 in
set_option maxHeartbeats 1000000 in
theorem count_any (l : List (Int × Int)) (a : Option Addr) (c N : Nat) (op : Int) (w : World) (hl : l.length ≤ 100) (hI : Prg N w a l) :
    Calls Tryz.prog 31 #[.slice a l.length c, .int .i64 op] w fun e w' => e = .returned (.int .i64 (cntS l op)) ∧ w' = w := by
  go_enter Tryz.func31, Tryz.ntmps31
  go_wp2
  go_loop [5, 6] (fun n i => ∃ q : Nat, q ≤ l.length ∧ i = .int .i64 q ∧ n = .int .i64 (cntS (l.take q) op)) (fun _ i => l.length - (intOf i).toNat)
  case atStart => exact ⟨0, Nat.zero_le _, rfl, rfl⟩
  case round =>
    obtain ⟨q, hq, rfl, rfl⟩ := hrel
    have hcl := cntS_le (l.take q) op
    have hll : (l.take q).length ≤ q := List.length_take_le _ _
    by_cases hlt : q < l.length
    · obtain ⟨b, off, hab, hbN, hop, hnn⟩ := hI.at_ hlt
      subst hab
      have htk : l.take (q + 1) = l.take q ++ [l[q]?.getD (0, 0)] := by rw [List.take_add_one]; simp [hlt]
      have hsn := cntS_snoc (l.take q) (l[q]?.getD (0, 0)) op
      rw [← htk] at hsn
      generalize l[q]?.getD (0, 0) = x at hop hnn hsn
      obtain ⟨o, n⟩ := x
      dsimp only at hop hnn hsn
      by_cases h : o = op
      · have t1 : (o == op) = true := by simpa using h
        rw [if_pos h] at hsn
        have HS := Lib.hid hsn
        have t2 : decide (o = op) = true := by simpa using h
        clear hsn htk hnn hI h
        generalize cntS (l.take q) op = cq at *
        go_wp2
        go_round
        case rel => exact ⟨q + 1, by omega, by simp, by rw [HS.out]⟩
        case measure => simp [intOf]; omega
      · have t1 : (o == op) = false := by simpa using h
        rw [if_neg h, Int.add_zero] at hsn
        have HS := Lib.hid hsn
        have t2 : decide (o = op) = false := by simpa using h
        clear hsn htk hnn hI h
        generalize cntS (l.take q) op = cq at *
        go_wp2
        go_round
        case rel => exact ⟨q + 1, by omega, by simp, by rw [HS.out]⟩
        case measure => simp [intOf]; omega
    · obtain rfl : q = l.length := by omega
      rw [List.take_of_length_le (Nat.le_refl _)]
      clear hI
      go_wp2
      go_ret
      exact ⟨rfl, rfl⟩

theorem any_cnt (l : List (Int × Int)) : takesS l = decide (0 < cntS l 6) := by
  unfold takesS cntS
  rw [Bool.eq_iff_iff]
  simp only [List.any_eq_true, decide_eq_true_eq]
  constructor
  · rintro ⟨x, hx, h⟩
    have : x ∈ l.filter fun x => decide (x.1 = 6) := List.mem_filter.2 ⟨hx, by simpa using h⟩
    have := List.length_pos_of_mem this
    omega
  · intro h
    have : (l.filter fun x => decide (x.1 = 6)) ≠ [] := fun e => by rw [e] at h; simp at h
    obtain ⟨x, hx⟩ := List.exists_mem_of_ne_nil _ this
    have := List.mem_filter.1 hx
    exact ⟨x, this.1, by simpa using this.2⟩

theorem rtakes_any (l : List (Int × Int)) (a : Option Addr) (c N : Nat) (w : World) (hl : l.length ≤ 100) (hI : Prg N w a l) :
    Calls Tryz.prog 16 #[.slice a l.length c] w fun e w' => e = .returned (.bool (takesS l)) ∧ w' = w := by
  have HT := Lib.hid (any_cnt l)
  have HC := Lib.hid (count_any l a c N 6 w hl hI)
  have hcl := cntS_le l 6
  go_enter Tryz.func16, Tryz.ntmps16
  go_wp2_with fail
  refine HC.out.mono ?_
  rintro e w' ⟨rfl, rfl⟩
  go_wp2
  go_ret
  exact ⟨by rw [HT.out]; first | rfl | simp, rfl⟩

set_option maxRecDepth 100000 in
set_option maxHeartbeats 2000000 in
theorem rvalid_any (l : List (Int × Int)) (a : Option Addr) (c : Nat) (d k r : Int) (N : Nat) (w : World) (hl : l.length ≤ 100) (hN : N ≤ w.heap.size) (hI : Prg N w a l) :
    Calls Tryz.prog 14 #[.slice a l.length c, .int .i64 d, .int .i64 k, .int .i64 r] w fun e w' => e = .returned (.bool (validP l d k r)) ∧ Below w.heap.size w w' := by
  go_enter Tryz.func14, Tryz.ntmps14
  go_wp2
  go_loopw [9] (fun i wr => ∃ q : Nat, q ≤ l.length ∧ i = .int .i64 q ∧ (∀ j, j < q → okStep d k r (l[j]?.getD (0, 0)) = true) ∧ Below w.heap.size w wr)
    (fun i _ => l.length - (intOf i).toNat)
  case atStart => exact ⟨0, Nat.zero_le _, rfl, fun j hj => absurd hj (Nat.not_lt_zero _), Below.refl _ _⟩
  case round =>
    obtain ⟨q, hq, rfl, hall, hbw⟩ := hrel
    by_cases hlt : q < l.length
    · obtain ⟨b, off, hab, hbN, hop, hnn⟩ := (hI.up hN hbw).at_ hlt
      subst hab
      have hno : okStep d k r (l[q]?.getD (0, 0)) = false → validP l d k r = false := fun h => by
        have : l.all (okStep d k r) = false := by
          rw [List.all_eq_false]
          exact ⟨l[q], List.getElem_mem hlt, by simpa [hlt] using h⟩
        simp [validP, this]
      generalize hxe : l[q]?.getD (0, 0) = x at hop hnn hno
      obtain ⟨op, n⟩ := x
      have HXE := Lib.hid hxe
      clear hxe
      dsimp only at hop hnn
      have HNO := Lib.hid hno
      have HA := Lib.hid hall
      have HST := Lib.hid (qstep_any op n d k r wr)
      cases hok : okStep d k r (op, n) with
      | false =>
        have HO := Lib.hid (HNO.out hok)
        have HK := Lib.hid hok
        clear hall hno hI hok
        go_wp2_with fail
        refine HST.out.mono ?_
        rintro e w4 ⟨rfl, hb4⟩
        rw [HK.out]
        have hbw4 := below_step hbw hb4
        go_wp2
        go_ret
        exact ⟨by rw [HO.out]; rfl, hbw4⟩
      | true =>
        have HK := Lib.hid hok
        clear hall hno hI hok
        go_wp2_with fail
        refine HST.out.mono ?_
        rintro e w4 ⟨rfl, hb4⟩
        rw [HK.out]
        have hbw4 := below_step hbw hb4
        go_wp2
        go_roundw
        case rel => exact ⟨q + 1, by omega, by simp, fun j hj => by
          by_cases e : j = q
          · rw [e, HXE.out]; exact HK.out
          · exact HA.out j (by omega), hbw4⟩
        case measure => simp [intOf]; omega
    · obtain rfl : q = l.length := by omega
      have hall' : l.all (okStep d k r) = true := by
        rw [List.all_eq_true]
        intro x hx
        obtain ⟨j, hj, rfl⟩ := List.getElem_of_mem hx
        have := hall j hj
        simpa [hj] using this
      have hv : validP l d k r = (decide (1 ≤ l.length) && (decide (l.length ≤ 8) && (decide (cntS l 6 ≤ 2) && (decide (cntS l 7 ≤ 1) && decide (cntS l 8 ≤ 1))))) := by
        unfold validP; rw [hall', Bool.true_and]
      have HV := Lib.hid hv
      have hIr := hI.up hN hbw
      have HC6 := Lib.hid (count_any l a c N 6 wr hl hIr)
      have HC7 := Lib.hid (count_any l a c N 7 wr hl hIr)
      have HC8 := Lib.hid (count_any l a c N 8 wr hl hIr)
      clear hall hall' hv hI hIr
      generalize cntS l 6 = n6 at *
      generalize cntS l 7 = n7 at *
      generalize cntS l 8 = n8 at *
      by_cases h1 : l.length < 1
      · have t1 : decide (1 ≤ (l.length : Int)) = false := by simp; omega
        have HR := Lib.hid (show validP l d k r = false by rw [HV.out]; simp; omega)
        go_wp2
        go_ret
        exact ⟨by rw [HR.out]; rfl, hbw⟩
      have t1 : decide (1 ≤ (l.length : Int)) = true := by simp; omega
      have s1 : decide (1 ≤ l.length) = true := by simp; omega
      by_cases h2 : 8 < l.length
      · have t2 : decide ((l.length : Int) ≤ 8) = false := by simp; omega
        have HR := Lib.hid (show validP l d k r = false by rw [HV.out]; simp; omega)
        go_wp2
        go_ret
        exact ⟨by rw [HR.out]; rfl, hbw⟩
      have t2 : decide ((l.length : Int) ≤ 8) = true := by simp; omega
      have s2 : decide (l.length ≤ 8) = true := by simp; omega
      rw [s1, s2, Bool.true_and, Bool.true_and] at HV
      clear s1 s2 h1 h2
      by_cases h3 : n6 ≤ 2
      · have t3 : decide (n6 ≤ 2) = true := by simpa using h3
        by_cases h4 : n7 ≤ 1
        · have t4 : decide (n7 ≤ 1) = true := by simpa using h4
          have HR := Lib.hid (show validP l d k r = decide (n8 ≤ 1) by rw [HV.out, t3, t4]; rfl)
          go_wp2_with fail
          refine HC6.out.mono ?_
          rintro e w4 ⟨rfl, rfl⟩
          go_wp2_with fail
          refine HC7.out.mono ?_
          rintro e w5 ⟨rfl, rfl⟩
          go_wp2_with fail
          refine HC8.out.mono ?_
          rintro e w6 ⟨rfl, rfl⟩
          go_wp2
          go_ret
          exact ⟨by rw [HR.out]; first | rfl | simp, hbw⟩
        · have t4 : decide (n7 ≤ 1) = false := by simpa using h4
          have HR := Lib.hid (show validP l d k r = false by rw [HV.out, t3, t4]; rfl)
          go_wp2_with fail
          refine HC6.out.mono ?_
          rintro e w4 ⟨rfl, rfl⟩
          go_wp2_with fail
          refine HC7.out.mono ?_
          rintro e w5 ⟨rfl, rfl⟩
          go_wp2
          go_ret
          exact ⟨by rw [HR.out]; rfl, hbw⟩
      · have t3 : decide (n6 ≤ 2) = false := by simpa using h3
        have HR := Lib.hid (show validP l d k r = false by rw [HV.out, t3]; rfl)
        go_wp2_with fail
        refine HC6.out.mono ?_
        rintro e w4 ⟨rfl, rfl⟩
        go_wp2
        go_ret
        exact ⟨by rw [HR.out]; rfl, hbw⟩
end Go.Proofs.YtidgdfjnjgonoaaGreatDoor
