/-
  Takes of the package prog.
-/
import Derived.Test.YtidgdfjnjgonoaaGreatDoorPBase
namespace Go.Proofs.YtidgdfjnjgonoaaGreatDoor
open Go Go.RowKit

def takesS (l : List (Int × Int)) : Bool := l.any fun x => decide (x.1 = 6)
theorem takes1_any (op n : Int) (w : World) : Calls Tryz.prog 33 #[.agg #[.int .i64 op, .int .i64 n]] w fun e w' => e = .returned (.bool (decide (op = 6))) ∧ Below w.heap.size w w' := by
  go_enter Tryz.func33, Tryz.ntmps33
  go_wp2
  go_ret
  exact ⟨by rw [show (op == 6) = decide (op = 6) from by rw [Bool.eq_iff_iff]; simp]; rfl, by (repeat (first | exact Below.refl _ _ | assumption | refine below_alloc ?_ _ | refine Below.drew ?_ | refine below_drewN_ ?_ _ | refine below_step ?_ (by assumption)))⟩

def IdxIs (l : List (Int × Int)) (w : World) (e : Ending) (w' : World) : Prop := ∃ r : Int, e = .returned (.int .i64 r) ∧ -1 ≤ r ∧ decide (0 ≤ r) = takesS l ∧ Below w.heap.size w w'

set_option maxRecDepth 100000 in
set_option maxHeartbeats 2000000 in
theorem idx_any (l : List (Int × Int)) (a : Option Addr) (c N : Nat) (w : World) (hl : l.length ≤ 100) (hN : N ≤ w.heap.size) (hI : Prg N w a l) :
    Calls Tryz.prog 46 #[.slice a l.length c, .func (.func 33) #[] #[]] w (IdxIs l w) := by
  go_enter Tryz.func46, Tryz.ntmps46
  go_wp2_with fail
  go_loopw [8] (fun i wr => ∃ q : Nat, q ≤ l.length ∧ i = .int .i64 q ∧ Hid (∀ j, j < q → ¬ (l[j]?.getD (0, 0)).1 = 6) ∧ Below w.heap.size w wr)
    (fun i _ => l.length - (intOf i).toNat)
  case atStart => exact ⟨0, Nat.zero_le _, rfl, Lib.hid (fun j hj => absurd hj (Nat.not_lt_zero _)), Below.refl _ _⟩
  case round =>
    obtain ⟨q, hq, rfl, HA, hbw⟩ := hrel
    by_cases hlt : q < l.length
    · obtain ⟨b, off, hab, hbN, hop, hnn⟩ := (hI.up hN hbw).at_ hlt
      subst hab
      have hat : l[q]?.getD (0, 0) ∈ l := by rw [List.getElem?_eq_getElem hlt, Option.getD_some]; exact List.getElem_mem hlt
      generalize hxe : l[q]?.getD (0, 0) = x at hop hnn hat
      obtain ⟨op, n⟩ := x
      dsimp only at hop hnn
      have HX := Lib.hid hxe
      have HM := Lib.hid hat
      clear hxe hat hI
      go_wp2_with fail
      refine (takes1_any op n wr).mono ?_
      rintro e w4 ⟨rfl, hb4⟩
      have hb5 := below_step hbw hb4
      by_cases h6 : op = 6
      · have t1 : decide (op = 6) = true := by simpa using h6
        rw [t1]
        have HO := Lib.hid (by unfold takesS; rw [List.any_eq_true]; exact ⟨_, HM.out, by simpa using h6⟩ : takesS l = true)
        clear h6 t1 hb4 hop hnn hbw
        go_wp2
        go_ret
        exact ⟨q, rfl, by omega, by rw [HO.out]; simp, hb5⟩
      · have t1 : decide (op = 6) = false := by simpa using h6
        rw [t1]
        have HN6 := Lib.hid h6
        clear h6 t1 hb4 hop hnn hbw
        go_wp2
        go_roundw
        case rel => exact ⟨q + 1, by omega, by simp, Lib.hid (fun j hj => by
          by_cases e : j = q
          · rw [e, HX.out]; exact HN6.out
          · exact HA.out j (by omega)), hb5⟩
        case measure => simp [intOf]; omega
    · have HO := Lib.hid (by
        unfold takesS
        rw [List.any_eq_false]
        intro x hx
        obtain ⟨i, hi⟩ := List.getElem?_of_mem hx
        have := HA.out i (by have := (List.getElem?_eq_some_iff.1 hi).1; omega)
        rw [hi] at this
        simpa using this : takesS l = false)
      go_wp2
      go_ret
      exact ⟨-1, rfl, by omega, by rw [HO.out]; simp, hbw⟩

theorem takes_any (l : List (Int × Int)) (a : Option Addr) (c N : Nat) (w : World) (hl : l.length ≤ 100) (hN : N ≤ w.heap.size) (hI : Prg N w a l) :
    Calls Tryz.prog 15 #[.slice a l.length c] w fun e w' => e = .returned (.bool (takesS l)) ∧ Below w.heap.size w w' := by
  have hc : Calls Tryz.prog 32 #[.slice a l.length c, .func (.func 33) #[] #[]] w fun e w' => e = .returned (.bool (takesS l)) ∧ Below w.heap.size w w' := by
    have hi := idx_any l a c N w hl hN hI
    have HI := Lib.hid hi
    clear hi
    go_enter Tryz.func32, Tryz.ntmps32
    go_wp2_with fail
    refine HI.out.mono ?_
    rintro e w' ⟨r, rfl, h1, h2, h3⟩
    have H2 := Lib.hid h2
    clear h2
    by_cases h0 : 0 ≤ r
    · have t1 : decide (0 ≤ r) = true := by simpa using h0
      have HO := Lib.hid (H2.out.symm.trans t1)
      go_wp2
      go_ret
      exact ⟨by rw [HO.out]; rfl, h3⟩
    · have t1 : decide (0 ≤ r) = false := by simpa using h0
      have HO := Lib.hid (H2.out.symm.trans t1)
      go_wp2
      go_ret
      exact ⟨by rw [HO.out]; rfl, h3⟩
  have HC := Lib.hid hc
  clear hc
  go_enter Tryz.func15, Tryz.ntmps15
  go_wp2_with fail
  refine HC.out.mono ?_
  rintro e w' ⟨rfl, hb⟩
  go_wp2
  go_ret
  exact ⟨rfl, hb⟩
end Go.Proofs.YtidgdfjnjgonoaaGreatDoor
