/-
  Ints of the reference for boards; equal of the laws.
-/
import Derived.Test.YtphhkfelpckilaaGreatDoorDPos
import Derived.Deep.QuietTactic
import Derived.WalkKit
import Derived.Deep.DeepCutAuto
namespace Go.Proofs.YtphhkfelpckilaaGreatDoor
open Go Go.RowKit

set_option maxRecDepth 100000 in
set_option maxHeartbeats 1000000 in
theorem ints1_any (l m : List Int) (a a2 : Option Addr) (ct c2 N : Nat) (w : World) (hl : l.length ≤ maxLen) (hI : Ints N w a l) (hI2 : Ints N w a2 m) :
    Calls Tryz.prog 28 #[.slice a l.length ct, .slice a2 m.length c2] w fun e w' => e = .returned (.bool (decide (l = m))) ∧ ∃ q, w' = w.drewN q := by
  unfold maxLen at hl
  by_cases hlm : l.length = m.length
  · go_enter Tryz.func28, Tryz.ntmps28
    rw [← hlm]
    have HLM := Lib.hid hlm
    clear hlm
    go_wp2
    go_loopw [5] (fun i wr => ∃ k : Nat, k ≤ l.length ∧ i = .int .i64 k ∧ (∀ j, j < k → l[j]?.getD 0 = m[j]?.getD 0) ∧ ∃ q, wr = w.drewN q)
      (fun i _ => l.length - (intOf i).toNat)
    case atStart => exact ⟨0, Nat.zero_le _, rfl, fun j hj => absurd hj (Nat.not_lt_zero _), 0, rfl⟩
    case round =>
      obtain ⟨k, hk, rfl, hall, q0, rfl⟩ := hrel
      by_cases hlt : k < l.length
      · obtain ⟨b, off, hab, hbN, hc⟩ := hI.at_ hlt
        obtain ⟨b2, off2, hab2, hbN2, hc2⟩ := hI2.at_ (j := k) (by have := HLM.out; omega)
        subst hab
        subst hab2
        have HK2 := Lib.hid (show k < m.length by have := HLM.out; omega)
        generalize hy : l[k]?.getD 0 = y at hc
        generalize hz : m[k]?.getD 0 = z at hc2
        by_cases h : y = z
        · have h1 : (y != z) = false := by simpa using h
          have h2 : decide (y = z) = true := by simpa using h
          have HA := Lib.hid hall
          have HY := Lib.hid hy
          have HZ := Lib.hid hz
          clear hall hy hz hI hI2
          go_wp2_with fail
          go_quiet (fail)
          go_wp2
          go_roundw
          case rel => exact ⟨k + 1, by omega, by simp, fun j hj => by
            by_cases e : j = k
            · rw [e, HY.out, HZ.out]; exact h
            · exact HA.out j (by omega), by first | exact ⟨_, rfl⟩ | exact ⟨_, World.drewN_drewN _ _ _⟩⟩
          case measure => simp [intOf]; omega
        · have HO := Lib.hid (by
            have : ¬ l = m := fun e => h (by rw [← hy, ← hz, e])
            simpa using this : decide (l = m) = false)
          have h1 : (y != z) = true := by simpa using h
          have h2 : decide (y = z) = false := by simpa using h
          clear hall hy hz hI hI2
          go_wp2_with fail
          go_quiet (fail)
          go_wp2
          go_ret
          exact ⟨by rw [HO.out]; rfl, by first | exact ⟨_, rfl⟩ | exact ⟨_, World.drewN_drewN _ _ _⟩⟩
      · obtain rfl : k = l.length := by omega
        have HO := Lib.hid (by
          have : l = m := by
            apply List.ext_getElem HLM.out
            intro j h1 h2
            have := hall j h1
            simpa [h1, h2] using this
          simpa using this : decide (l = m) = true)
        clear hall hI hI2
        go_wp2
        go_ret
        exact ⟨by rw [HO.out]; rfl, by first | exact ⟨_, rfl⟩ | exact ⟨_, World.drewN_drewN _ _ _⟩⟩
  · have HO := Lib.hid (by
      have : ¬ l = m := fun e => hlm (by rw [e])
      simpa using this : decide (l = m) = false)
    have hne : ((l.length : Int) != (m.length : Int)) = true := by simp; omega
    have hne2 : decide ((l.length : Int) = (m.length : Int)) = false := by simp; omega
    go_enter Tryz.func28, Tryz.ntmps28
    go_wp2
    go_ret
    exact ⟨by rw [HO.out]; rfl, 0, rfl⟩

def eqB (p q : PosS) : Bool := decide (p.cells = q.cells) && (decide (p.h0 = q.h0) && (decide (p.h1 = q.h1) && (decide (p.rights = q.rights) && decide (p.side = q.side))))
theorem eqB_iff (p q : PosS) : eqB p q = decide (cmpP p q = 0) := by
  rw [Bool.eq_iff_iff, decide_eq_true_eq, cmpP_ok.eq0]
  cases p; cases q
  simp [eqB]
theorem ints1_below (l m : List Int) (a a2 : Option Addr) (ct c2 N : Nat) (w : World) (hl : l.length ≤ maxLen) (hI : Ints N w a l) (hI2 : Ints N w a2 m) :
    Calls Tryz.prog 28 #[.slice a l.length ct, .slice a2 m.length c2] w fun e w' => e = .returned (.bool (decide (l = m))) ∧ Below w.heap.size w w' := by
  refine (ints1_any l m a a2 ct c2 N w hl hI hI2).mono ?_
  rintro e w' ⟨rfl, q, rfl⟩
  exact ⟨rfl, below_drewN_ (Below.refl _ _) _⟩

set_option maxRecDepth 100000 in
set_option maxHeartbeats 2000000 in
theorem equal_any (p q : PosS) (a a0 a1 b b0 b1 : Option Addr) (c c0 c1 d d0 d1 N : Nat) (w : World) (hp : PosFit p) (hN : N ≤ w.heap.size) (hP : PosIn N w a a0 a1 p) (hQ : PosIn N w b b0 b1 q) :
    Calls Tryz.prog 31 #[PosV a a0 a1 c c0 c1 p, PosV b b0 b1 d d0 d1 q] w fun e w' => e = .returned (.bool (eqB p q)) ∧ Below w.heap.size w w' := by
  obtain ⟨R, hR⟩ : ∃ R, eqB p q = R := ⟨_, rfl⟩
  rw [hR]
  unfold eqB at hR
  have HRES := Lib.hid hR
  clear hR
  unfold PosV
  go_enter Tryz.func31, Tryz.ntmps31
  go_upto_region 1 with (fail)
  have hb0 : Below w.heap.size w ((w.alloc (.cells #[.slice a p.cells.length c, .slice a0 p.h0.length c0, .slice a1 p.h1.length c1, .int .i64 p.rights, .int .i64 p.side] 32)).alloc (.cells #[.slice b q.cells.length d, .slice b0 q.h0.length d0, .slice b1 q.h1.length d1, .int .i64 q.rights, .int .i64 q.side] 32)) := below_alloc (below_alloc (Below.refl _ _) _) _
  have P0 := Lib.hid (show ((w.alloc (.cells #[.slice a p.cells.length c, .slice a0 p.h0.length c0, .slice a1 p.h1.length c1, .int .i64 p.rights, .int .i64 p.side] 32)).alloc (.cells #[.slice b q.cells.length d, .slice b0 q.h0.length d0, .slice b1 q.h1.length d1, .int .i64 q.rights, .int .i64 q.side] 32)).cell? ⟨w.heap.size, 0, none⟩ = some (.slice a p.cells.length c) from cell_alloc_keep (cell_new_at _ _ _ _ _ _ rfl rfl) _)
  have P1 := Lib.hid (show ((w.alloc (.cells #[.slice a p.cells.length c, .slice a0 p.h0.length c0, .slice a1 p.h1.length c1, .int .i64 p.rights, .int .i64 p.side] 32)).alloc (.cells #[.slice b q.cells.length d, .slice b0 q.h0.length d0, .slice b1 q.h1.length d1, .int .i64 q.rights, .int .i64 q.side] 32)).cell? ⟨w.heap.size, 1, none⟩ = some (.slice a0 p.h0.length c0) from cell_alloc_keep (cell_new_at _ _ _ _ _ _ rfl rfl) _)
  have P2 := Lib.hid (show ((w.alloc (.cells #[.slice a p.cells.length c, .slice a0 p.h0.length c0, .slice a1 p.h1.length c1, .int .i64 p.rights, .int .i64 p.side] 32)).alloc (.cells #[.slice b q.cells.length d, .slice b0 q.h0.length d0, .slice b1 q.h1.length d1, .int .i64 q.rights, .int .i64 q.side] 32)).cell? ⟨w.heap.size, 2, none⟩ = some (.slice a1 p.h1.length c1) from cell_alloc_keep (cell_new_at _ _ _ _ _ _ rfl rfl) _)
  have P3 := Lib.hid (show ((w.alloc (.cells #[.slice a p.cells.length c, .slice a0 p.h0.length c0, .slice a1 p.h1.length c1, .int .i64 p.rights, .int .i64 p.side] 32)).alloc (.cells #[.slice b q.cells.length d, .slice b0 q.h0.length d0, .slice b1 q.h1.length d1, .int .i64 q.rights, .int .i64 q.side] 32)).cell? ⟨w.heap.size, 3, none⟩ = some (.int .i64 p.rights) from cell_alloc_keep (cell_new_at _ _ _ _ _ _ rfl rfl) _)
  have P4 := Lib.hid (show ((w.alloc (.cells #[.slice a p.cells.length c, .slice a0 p.h0.length c0, .slice a1 p.h1.length c1, .int .i64 p.rights, .int .i64 p.side] 32)).alloc (.cells #[.slice b q.cells.length d, .slice b0 q.h0.length d0, .slice b1 q.h1.length d1, .int .i64 q.rights, .int .i64 q.side] 32)).cell? ⟨w.heap.size, 4, none⟩ = some (.int .i64 p.side) from cell_alloc_keep (cell_new_at _ _ _ _ _ _ rfl rfl) _)
  have Q0 := Lib.hid (show ((w.alloc (.cells #[.slice a p.cells.length c, .slice a0 p.h0.length c0, .slice a1 p.h1.length c1, .int .i64 p.rights, .int .i64 p.side] 32)).alloc (.cells #[.slice b q.cells.length d, .slice b0 q.h0.length d0, .slice b1 q.h1.length d1, .int .i64 q.rights, .int .i64 q.side] 32)).cell? ⟨w.heap.size + 1, 0, none⟩ = some (.slice b q.cells.length d) from cell_new_at _ _ _ _ _ _ (by simp) rfl)
  have Q1 := Lib.hid (show ((w.alloc (.cells #[.slice a p.cells.length c, .slice a0 p.h0.length c0, .slice a1 p.h1.length c1, .int .i64 p.rights, .int .i64 p.side] 32)).alloc (.cells #[.slice b q.cells.length d, .slice b0 q.h0.length d0, .slice b1 q.h1.length d1, .int .i64 q.rights, .int .i64 q.side] 32)).cell? ⟨w.heap.size + 1, 1, none⟩ = some (.slice b0 q.h0.length d0) from cell_new_at _ _ _ _ _ _ (by simp) rfl)
  have Q2 := Lib.hid (show ((w.alloc (.cells #[.slice a p.cells.length c, .slice a0 p.h0.length c0, .slice a1 p.h1.length c1, .int .i64 p.rights, .int .i64 p.side] 32)).alloc (.cells #[.slice b q.cells.length d, .slice b0 q.h0.length d0, .slice b1 q.h1.length d1, .int .i64 q.rights, .int .i64 q.side] 32)).cell? ⟨w.heap.size + 1, 2, none⟩ = some (.slice b1 q.h1.length d1) from cell_new_at _ _ _ _ _ _ (by simp) rfl)
  have Q3 := Lib.hid (show ((w.alloc (.cells #[.slice a p.cells.length c, .slice a0 p.h0.length c0, .slice a1 p.h1.length c1, .int .i64 p.rights, .int .i64 p.side] 32)).alloc (.cells #[.slice b q.cells.length d, .slice b0 q.h0.length d0, .slice b1 q.h1.length d1, .int .i64 q.rights, .int .i64 q.side] 32)).cell? ⟨w.heap.size + 1, 3, none⟩ = some (.int .i64 q.rights) from cell_new_at _ _ _ _ _ _ (by simp) rfl)
  have Q4 := Lib.hid (show ((w.alloc (.cells #[.slice a p.cells.length c, .slice a0 p.h0.length c0, .slice a1 p.h1.length c1, .int .i64 p.rights, .int .i64 p.side] 32)).alloc (.cells #[.slice b q.cells.length d, .slice b0 q.h0.length d0, .slice b1 q.h1.length d1, .int .i64 q.rights, .int .i64 q.side] 32)).cell? ⟨w.heap.size + 1, 4, none⟩ = some (.int .i64 q.side) from cell_new_at _ _ _ _ _ _ (by simp) rfl)
  generalize (w.alloc (.cells #[.slice a p.cells.length c, .slice a0 p.h0.length c0, .slice a1 p.h1.length c1, .int .i64 p.rights, .int .i64 p.side] 32)).alloc (.cells #[.slice b q.cells.length d, .slice b0 q.h0.length d0, .slice b1 q.h1.length d1, .int .i64 q.rights, .int .i64 q.side] 32) = w0 at *
  have C1 := Lib.hid (fun W (h : Below w0.heap.size w0 W) => ints1_below p.cells q.cells a b c d N W hp.cells (hP.up hN (below_step hb0 h)).cells (hQ.up hN (below_step hb0 h)).cells)
  have C2 := Lib.hid (fun W (h : Below w0.heap.size w0 W) => ints1_below p.h0 q.h0 a0 b0 c0 d0 N W hp.h0 (hP.up hN (below_step hb0 h)).h0 (hQ.up hN (below_step hb0 h)).h0)
  have C3 := Lib.hid (fun W (h : Below w0.heap.size w0 W) => ints1_below p.h1 q.h1 a1 b1 c1 d1 N W hp.h1 (hP.up hN (below_step hb0 h)).h1 (hQ.up hN (below_step hb0 h)).h1)
  have h0 : Below w0.heap.size w0 w0 := Below.refl _ _
  have hl0 := World.block_lt_of_cell? _ _ P0.out
  have hl1 := World.block_lt_of_cell? _ _ Q0.out
  clear hP hQ hp
  generalize decide (p.cells = q.cells) = B1 at *
  generalize decide (p.h0 = q.h0) = B2 at *
  generalize decide (p.h1 = q.h1) = B3 at *
  have p0 : w0.cell? ⟨w.heap.size, 0, none⟩ = some (.slice a p.cells.length c) := cell_keep h0 P0.out
  have p1 : w0.cell? ⟨w.heap.size, 1, none⟩ = some (.slice a0 p.h0.length c0) := cell_keep h0 P1.out
  have p2 : w0.cell? ⟨w.heap.size, 2, none⟩ = some (.slice a1 p.h1.length c1) := cell_keep h0 P2.out
  have p3 : w0.cell? ⟨w.heap.size, 3, none⟩ = some (.int .i64 p.rights) := cell_keep h0 P3.out
  have p4 : w0.cell? ⟨w.heap.size, 4, none⟩ = some (.int .i64 p.side) := cell_keep h0 P4.out
  have q0 : w0.cell? ⟨w.heap.size + 1, 0, none⟩ = some (.slice b q.cells.length d) := cell_keep h0 Q0.out
  have q1 : w0.cell? ⟨w.heap.size + 1, 1, none⟩ = some (.slice b0 q.h0.length d0) := cell_keep h0 Q1.out
  have q2 : w0.cell? ⟨w.heap.size + 1, 2, none⟩ = some (.slice b1 q.h1.length d1) := cell_keep h0 Q2.out
  have q3 : w0.cell? ⟨w.heap.size + 1, 3, none⟩ = some (.int .i64 q.rights) := cell_keep h0 Q3.out
  have q4 : w0.cell? ⟨w.heap.size + 1, 4, none⟩ = some (.int .i64 q.side) := cell_keep h0 Q4.out
  cases B1 with
  | false =>
    go_wp2_with fail
    refine (C1.out _ h0).mono ?_
    rintro e w1 ⟨rfl, kh1⟩
    have h1 := below_step h0 kh1
    have hl0h1 : w.heap.size < w1.heap.size := by have := h1.size; omega
    have hl1h1 : w.heap.size + 1 < w1.heap.size := by have := h1.size; omega
    clear p0 p1 p2 p3 p4 q0 q1 q2 q3 q4
    have p0 : w1.cell? ⟨w.heap.size, 0, none⟩ = some (.slice a p.cells.length c) := cell_keep h1 P0.out
    have p1 : w1.cell? ⟨w.heap.size, 1, none⟩ = some (.slice a0 p.h0.length c0) := cell_keep h1 P1.out
    have p2 : w1.cell? ⟨w.heap.size, 2, none⟩ = some (.slice a1 p.h1.length c1) := cell_keep h1 P2.out
    have p3 : w1.cell? ⟨w.heap.size, 3, none⟩ = some (.int .i64 p.rights) := cell_keep h1 P3.out
    have p4 : w1.cell? ⟨w.heap.size, 4, none⟩ = some (.int .i64 p.side) := cell_keep h1 P4.out
    have q0 : w1.cell? ⟨w.heap.size + 1, 0, none⟩ = some (.slice b q.cells.length d) := cell_keep h1 Q0.out
    have q1 : w1.cell? ⟨w.heap.size + 1, 1, none⟩ = some (.slice b0 q.h0.length d0) := cell_keep h1 Q1.out
    have q2 : w1.cell? ⟨w.heap.size + 1, 2, none⟩ = some (.slice b1 q.h1.length d1) := cell_keep h1 Q2.out
    have q3 : w1.cell? ⟨w.heap.size + 1, 3, none⟩ = some (.int .i64 q.rights) := cell_keep h1 Q3.out
    have q4 : w1.cell? ⟨w.heap.size + 1, 4, none⟩ = some (.int .i64 q.side) := cell_keep h1 Q4.out
    go_wp2
    go_ret
    exact ⟨by rw [← HRES.out]; first | rfl | simp, below_step hb0 h1⟩
  | true =>
    go_wp2_with fail
    refine (C1.out _ h0).mono ?_
    rintro e w1 ⟨rfl, kh1⟩
    have h1 := below_step h0 kh1
    have hl0h1 : w.heap.size < w1.heap.size := by have := h1.size; omega
    have hl1h1 : w.heap.size + 1 < w1.heap.size := by have := h1.size; omega
    clear p0 p1 p2 p3 p4 q0 q1 q2 q3 q4
    have p0 : w1.cell? ⟨w.heap.size, 0, none⟩ = some (.slice a p.cells.length c) := cell_keep h1 P0.out
    have p1 : w1.cell? ⟨w.heap.size, 1, none⟩ = some (.slice a0 p.h0.length c0) := cell_keep h1 P1.out
    have p2 : w1.cell? ⟨w.heap.size, 2, none⟩ = some (.slice a1 p.h1.length c1) := cell_keep h1 P2.out
    have p3 : w1.cell? ⟨w.heap.size, 3, none⟩ = some (.int .i64 p.rights) := cell_keep h1 P3.out
    have p4 : w1.cell? ⟨w.heap.size, 4, none⟩ = some (.int .i64 p.side) := cell_keep h1 P4.out
    have q0 : w1.cell? ⟨w.heap.size + 1, 0, none⟩ = some (.slice b q.cells.length d) := cell_keep h1 Q0.out
    have q1 : w1.cell? ⟨w.heap.size + 1, 1, none⟩ = some (.slice b0 q.h0.length d0) := cell_keep h1 Q1.out
    have q2 : w1.cell? ⟨w.heap.size + 1, 2, none⟩ = some (.slice b1 q.h1.length d1) := cell_keep h1 Q2.out
    have q3 : w1.cell? ⟨w.heap.size + 1, 3, none⟩ = some (.int .i64 q.rights) := cell_keep h1 Q3.out
    have q4 : w1.cell? ⟨w.heap.size + 1, 4, none⟩ = some (.int .i64 q.side) := cell_keep h1 Q4.out
    cases B2 with
    | false =>
      go_wp2_with fail
      refine (C2.out _ h1).mono ?_
      rintro e w2 ⟨rfl, kh2⟩
      have h2 := below_step h1 kh2
      have hl0h2 : w.heap.size < w2.heap.size := by have := h2.size; omega
      have hl1h2 : w.heap.size + 1 < w2.heap.size := by have := h2.size; omega
      clear p0 p1 p2 p3 p4 q0 q1 q2 q3 q4
      have p0 : w2.cell? ⟨w.heap.size, 0, none⟩ = some (.slice a p.cells.length c) := cell_keep h2 P0.out
      have p1 : w2.cell? ⟨w.heap.size, 1, none⟩ = some (.slice a0 p.h0.length c0) := cell_keep h2 P1.out
      have p2 : w2.cell? ⟨w.heap.size, 2, none⟩ = some (.slice a1 p.h1.length c1) := cell_keep h2 P2.out
      have p3 : w2.cell? ⟨w.heap.size, 3, none⟩ = some (.int .i64 p.rights) := cell_keep h2 P3.out
      have p4 : w2.cell? ⟨w.heap.size, 4, none⟩ = some (.int .i64 p.side) := cell_keep h2 P4.out
      have q0 : w2.cell? ⟨w.heap.size + 1, 0, none⟩ = some (.slice b q.cells.length d) := cell_keep h2 Q0.out
      have q1 : w2.cell? ⟨w.heap.size + 1, 1, none⟩ = some (.slice b0 q.h0.length d0) := cell_keep h2 Q1.out
      have q2 : w2.cell? ⟨w.heap.size + 1, 2, none⟩ = some (.slice b1 q.h1.length d1) := cell_keep h2 Q2.out
      have q3 : w2.cell? ⟨w.heap.size + 1, 3, none⟩ = some (.int .i64 q.rights) := cell_keep h2 Q3.out
      have q4 : w2.cell? ⟨w.heap.size + 1, 4, none⟩ = some (.int .i64 q.side) := cell_keep h2 Q4.out
      go_wp2
      go_ret
      exact ⟨by rw [← HRES.out]; first | rfl | simp, below_step hb0 h2⟩
    | true =>
      go_wp2_with fail
      refine (C2.out _ h1).mono ?_
      rintro e w2 ⟨rfl, kh2⟩
      have h2 := below_step h1 kh2
      have hl0h2 : w.heap.size < w2.heap.size := by have := h2.size; omega
      have hl1h2 : w.heap.size + 1 < w2.heap.size := by have := h2.size; omega
      clear p0 p1 p2 p3 p4 q0 q1 q2 q3 q4
      have p0 : w2.cell? ⟨w.heap.size, 0, none⟩ = some (.slice a p.cells.length c) := cell_keep h2 P0.out
      have p1 : w2.cell? ⟨w.heap.size, 1, none⟩ = some (.slice a0 p.h0.length c0) := cell_keep h2 P1.out
      have p2 : w2.cell? ⟨w.heap.size, 2, none⟩ = some (.slice a1 p.h1.length c1) := cell_keep h2 P2.out
      have p3 : w2.cell? ⟨w.heap.size, 3, none⟩ = some (.int .i64 p.rights) := cell_keep h2 P3.out
      have p4 : w2.cell? ⟨w.heap.size, 4, none⟩ = some (.int .i64 p.side) := cell_keep h2 P4.out
      have q0 : w2.cell? ⟨w.heap.size + 1, 0, none⟩ = some (.slice b q.cells.length d) := cell_keep h2 Q0.out
      have q1 : w2.cell? ⟨w.heap.size + 1, 1, none⟩ = some (.slice b0 q.h0.length d0) := cell_keep h2 Q1.out
      have q2 : w2.cell? ⟨w.heap.size + 1, 2, none⟩ = some (.slice b1 q.h1.length d1) := cell_keep h2 Q2.out
      have q3 : w2.cell? ⟨w.heap.size + 1, 3, none⟩ = some (.int .i64 q.rights) := cell_keep h2 Q3.out
      have q4 : w2.cell? ⟨w.heap.size + 1, 4, none⟩ = some (.int .i64 q.side) := cell_keep h2 Q4.out
      cases B3 with
      | false =>
        go_wp2_with fail
        refine (C3.out _ h2).mono ?_
        rintro e w3 ⟨rfl, kh3⟩
        have h3 := below_step h2 kh3
        have hl0h3 : w.heap.size < w3.heap.size := by have := h3.size; omega
        have hl1h3 : w.heap.size + 1 < w3.heap.size := by have := h3.size; omega
        clear p0 p1 p2 p3 p4 q0 q1 q2 q3 q4
        have p0 : w3.cell? ⟨w.heap.size, 0, none⟩ = some (.slice a p.cells.length c) := cell_keep h3 P0.out
        have p1 : w3.cell? ⟨w.heap.size, 1, none⟩ = some (.slice a0 p.h0.length c0) := cell_keep h3 P1.out
        have p2 : w3.cell? ⟨w.heap.size, 2, none⟩ = some (.slice a1 p.h1.length c1) := cell_keep h3 P2.out
        have p3 : w3.cell? ⟨w.heap.size, 3, none⟩ = some (.int .i64 p.rights) := cell_keep h3 P3.out
        have p4 : w3.cell? ⟨w.heap.size, 4, none⟩ = some (.int .i64 p.side) := cell_keep h3 P4.out
        have q0 : w3.cell? ⟨w.heap.size + 1, 0, none⟩ = some (.slice b q.cells.length d) := cell_keep h3 Q0.out
        have q1 : w3.cell? ⟨w.heap.size + 1, 1, none⟩ = some (.slice b0 q.h0.length d0) := cell_keep h3 Q1.out
        have q2 : w3.cell? ⟨w.heap.size + 1, 2, none⟩ = some (.slice b1 q.h1.length d1) := cell_keep h3 Q2.out
        have q3 : w3.cell? ⟨w.heap.size + 1, 3, none⟩ = some (.int .i64 q.rights) := cell_keep h3 Q3.out
        have q4 : w3.cell? ⟨w.heap.size + 1, 4, none⟩ = some (.int .i64 q.side) := cell_keep h3 Q4.out
        go_wp2
        go_ret
        exact ⟨by rw [← HRES.out]; first | rfl | simp, below_step hb0 h3⟩
      | true =>
        go_wp2_with fail
        refine (C3.out _ h2).mono ?_
        rintro e w3 ⟨rfl, kh3⟩
        have h3 := below_step h2 kh3
        have hl0h3 : w.heap.size < w3.heap.size := by have := h3.size; omega
        have hl1h3 : w.heap.size + 1 < w3.heap.size := by have := h3.size; omega
        clear p0 p1 p2 p3 p4 q0 q1 q2 q3 q4
        have p0 : w3.cell? ⟨w.heap.size, 0, none⟩ = some (.slice a p.cells.length c) := cell_keep h3 P0.out
        have p1 : w3.cell? ⟨w.heap.size, 1, none⟩ = some (.slice a0 p.h0.length c0) := cell_keep h3 P1.out
        have p2 : w3.cell? ⟨w.heap.size, 2, none⟩ = some (.slice a1 p.h1.length c1) := cell_keep h3 P2.out
        have p3 : w3.cell? ⟨w.heap.size, 3, none⟩ = some (.int .i64 p.rights) := cell_keep h3 P3.out
        have p4 : w3.cell? ⟨w.heap.size, 4, none⟩ = some (.int .i64 p.side) := cell_keep h3 P4.out
        have q0 : w3.cell? ⟨w.heap.size + 1, 0, none⟩ = some (.slice b q.cells.length d) := cell_keep h3 Q0.out
        have q1 : w3.cell? ⟨w.heap.size + 1, 1, none⟩ = some (.slice b0 q.h0.length d0) := cell_keep h3 Q1.out
        have q2 : w3.cell? ⟨w.heap.size + 1, 2, none⟩ = some (.slice b1 q.h1.length d1) := cell_keep h3 Q2.out
        have q3 : w3.cell? ⟨w.heap.size + 1, 3, none⟩ = some (.int .i64 q.rights) := cell_keep h3 Q3.out
        have q4 : w3.cell? ⟨w.heap.size + 1, 4, none⟩ = some (.int .i64 q.side) := cell_keep h3 Q4.out
        by_cases hr : p.rights = q.rights
        · have t1 : decide (p.rights = q.rights) = true := by simpa using hr
          have t2 : (p.rights == q.rights) = true := by simpa using hr
          have HR := Lib.hid hr
          clear hr
          go_wp2
          go_ret
          exact ⟨by rw [← HRES.out]; (rw [t1]; simp; rw [Bool.eq_iff_iff]; simp), below_step hb0 h3⟩
        · have t1 : decide (p.rights = q.rights) = false := by simpa using hr
          have t2 : (p.rights == q.rights) = false := by simpa using hr
          clear hr
          go_wp2
          go_ret
          exact ⟨by rw [← HRES.out]; (rw [t1]; rfl), below_step hb0 h3⟩
end Go.Proofs.YtphhkfelpckilaaGreatDoor
