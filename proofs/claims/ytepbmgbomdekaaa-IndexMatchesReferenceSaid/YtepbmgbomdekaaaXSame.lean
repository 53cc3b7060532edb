/-
  Same of the reference; place of the laws; a comparison of positions by the reference.
-/
import Derived.Test.YtepbmgbomdekaaaXGm
import Derived.Test.YtepbmgbomdekaaaDRefC
namespace Go.Proofs.Ytepbmgbomdekaaa
open Go Go.RowKit

def eqB (p q : PosS) : Bool := decide (p.cells = q.cells) && (decide (p.h0 = q.h0) && (decide (p.h1 = q.h1) && (decide (p.rights = q.rights) && decide (p.side = q.side))))
theorem eqB_true {p q : PosS} (h : eqB p q = true) : p = q := by
  cases p; cases q
  simpa [eqB] using h
theorem eqB_self (p : PosS) : eqB p p = true := by simp [eqB]
theorem rints_below (l m : List Int) (a a2 : Option Addr) (ct c2 N : Nat) (w : World) (hl : l.length ≤ maxLen) (hI : Ints N w a l) (hI2 : Ints N w a2 m) :
    Calls Try.prog 33 #[.slice a l.length ct, .slice a2 m.length c2] w fun e w' => e = .returned (.bool (decide (l = m))) ∧ Below w.heap.size w w' := by
  refine (ints1_any l m a a2 ct c2 N w hl hI hI2).mono ?_
  rintro e w' ⟨rfl, q, rfl⟩
  exact ⟨rfl, below_drewN_ (Below.refl _ _) _⟩
set_option maxRecDepth 100000 in
set_option maxHeartbeats 2000000 in
theorem same_any (p q : PosS) (a a0 a1 b b0 b1 : Option Addr) (c c0 c1 d d0 d1 N : Nat) (w : World) (hp : PosFit p) (hN : N ≤ w.heap.size) (hP : PosIn N w a a0 a1 p) (hQ : PosIn N w b b0 b1 q) :
    Calls Try.prog 12 #[PosV a a0 a1 c c0 c1 p, PosV b b0 b1 d d0 d1 q] w fun e w' => e = .returned (.bool (eqB p q)) ∧ Below w.heap.size w w' := by
  obtain ⟨R, hR⟩ : ∃ R, eqB p q = R := ⟨_, rfl⟩
  rw [hR]
  unfold eqB at hR
  have HR := Lib.hid hR
  clear hR
  unfold PosV
  go_enter Try.func12, Try.ntmps12
  go_upto_region 1 with (fail)
  obtain ⟨hb0, hA, hB, -⟩ := two_boxes w #[.slice a p.cells.length c, .slice a0 p.h0.length c0, .slice a1 p.h1.length c1, .int .i64 p.rights, .int .i64 p.side] #[.slice b q.cells.length d, .slice b0 q.h0.length d0, .slice b1 q.h1.length d1, .int .i64 q.rights, .int .i64 q.side] 39 39
  generalize (w.alloc (.cells #[.slice a p.cells.length c, .slice a0 p.h0.length c0, .slice a1 p.h1.length c1, .int .i64 p.rights, .int .i64 p.side] 39)).alloc (.cells #[.slice b q.cells.length d, .slice b0 q.h0.length d0, .slice b1 q.h1.length d1, .int .i64 q.rights, .int .i64 q.side] 39) = w0 at *
  have HB0 := Lib.hid hb0
  have hN0 : N ≤ w0.heap.size := Nat.le_trans hN hb0.size
  have C0 := Lib.hid (fun W (h : Below w0.heap.size w0 W) => rints_below p.cells q.cells a b c d N W hp.cells ((hP.up hN hb0).up hN0 h).cells ((hQ.up hN hb0).up hN0 h).cells)
  have C1 := Lib.hid (fun W (h : Below w0.heap.size w0 W) => rints_below p.h0 q.h0 a0 b0 c0 d0 N W hp.h0 ((hP.up hN hb0).up hN0 h).h0 ((hQ.up hN hb0).up hN0 h).h0)
  have C2 := Lib.hid (fun W (h : Below w0.heap.size w0 W) => rints_below p.h1 q.h1 a1 b1 c1 d1 N W hp.h1 ((hP.up hN hb0).up hN0 h).h1 ((hQ.up hN hb0).up hN0 h).h1)
  have p0 : w0.cell? ⟨w.heap.size, 0, none⟩ = some (.slice a p.cells.length c) := bx_cell hA 0 rfl
  have p1 : w0.cell? ⟨w.heap.size, 1, none⟩ = some (.slice a0 p.h0.length c0) := bx_cell hA 1 rfl
  have p2 : w0.cell? ⟨w.heap.size, 2, none⟩ = some (.slice a1 p.h1.length c1) := bx_cell hA 2 rfl
  have p3 : w0.cell? ⟨w.heap.size, 3, none⟩ = some (.int .i64 p.rights) := bx_cell hA 3 rfl
  have p4 : w0.cell? ⟨w.heap.size, 4, none⟩ = some (.int .i64 p.side) := bx_cell hA 4 rfl
  have q0 : w0.cell? ⟨w.heap.size + 1, 0, none⟩ = some (.slice b q.cells.length d) := bx_cell hB 0 rfl
  have q1 : w0.cell? ⟨w.heap.size + 1, 1, none⟩ = some (.slice b0 q.h0.length d0) := bx_cell hB 1 rfl
  have q2 : w0.cell? ⟨w.heap.size + 1, 2, none⟩ = some (.slice b1 q.h1.length d1) := bx_cell hB 2 rfl
  have q3 : w0.cell? ⟨w.heap.size + 1, 3, none⟩ = some (.int .i64 q.rights) := bx_cell hB 3 rfl
  have q4 : w0.cell? ⟨w.heap.size + 1, 4, none⟩ = some (.int .i64 q.side) := bx_cell hB 4 rfl
  have l1 := bx_lt hA
  have l2 := bx_lt hB
  clear hA hB hP hQ hp hb0
  generalize decide (p.cells = q.cells) = v0 at *
  generalize decide (p.h0 = q.h0) = v1 at *
  generalize decide (p.h1 = q.h1) = v2 at *
  generalize hv3 : decide (p.rights = q.rights) = v3 at *
  generalize hv4 : decide (p.side = q.side) = v4 at *
  have HV3 := Lib.hid (show (p.rights == q.rights) = v3 by rw [← hv3]; rfl)
  have HV4 := Lib.hid (show (p.side == q.side) = v4 by rw [← hv4]; rfl)
  clear hv3 hv4
  cases v0 with
  | false =>
    go_wp2_with (first | (go_at_call 33; with_reducible refine (C0.out w0 (Below.refl _ _)).mono ?_; rintro e w1 ⟨rfl, hb1⟩; replace p1 := cell_keep hb1 p1; replace p2 := cell_keep hb1 p2; replace p3 := cell_keep hb1 p3; replace p4 := cell_keep hb1 p4; replace q1 := cell_keep hb1 q1; replace q2 := cell_keep hb1 q2; replace q3 := cell_keep hb1 q3; replace q4 := cell_keep hb1 q4) | (go_at_call 33; with_reducible refine (C1.out w1 hb1).mono ?_; rintro e w2 ⟨rfl, hb2⟩; replace p2 := cell_keep hb2 p2; replace p3 := cell_keep hb2 p3; replace p4 := cell_keep hb2 p4; replace q2 := cell_keep hb2 q2; replace q3 := cell_keep hb2 q3; replace q4 := cell_keep hb2 q4) | (go_at_call 33; with_reducible refine (C2.out w2 (below_step hb1 hb2)).mono ?_; rintro e w3 ⟨rfl, hb3⟩; replace p3 := cell_keep hb3 p3; replace p4 := cell_keep hb3 p4; replace q3 := cell_keep hb3 q3; replace q4 := cell_keep hb3 q4))
    go_ret
    exact ⟨by rw [← HR.out]; (first | rfl | simp), below_step HB0.out hb1⟩
  | true =>
    cases v1 with
    | false =>
      go_wp2_with (first | (go_at_call 33; with_reducible refine (C0.out w0 (Below.refl _ _)).mono ?_; rintro e w1 ⟨rfl, hb1⟩; replace p1 := cell_keep hb1 p1; replace p2 := cell_keep hb1 p2; replace p3 := cell_keep hb1 p3; replace p4 := cell_keep hb1 p4; replace q1 := cell_keep hb1 q1; replace q2 := cell_keep hb1 q2; replace q3 := cell_keep hb1 q3; replace q4 := cell_keep hb1 q4) | (go_at_call 33; with_reducible refine (C1.out w1 hb1).mono ?_; rintro e w2 ⟨rfl, hb2⟩; replace p2 := cell_keep hb2 p2; replace p3 := cell_keep hb2 p3; replace p4 := cell_keep hb2 p4; replace q2 := cell_keep hb2 q2; replace q3 := cell_keep hb2 q3; replace q4 := cell_keep hb2 q4) | (go_at_call 33; with_reducible refine (C2.out w2 (below_step hb1 hb2)).mono ?_; rintro e w3 ⟨rfl, hb3⟩; replace p3 := cell_keep hb3 p3; replace p4 := cell_keep hb3 p4; replace q3 := cell_keep hb3 q3; replace q4 := cell_keep hb3 q4))
      go_ret
      exact ⟨by rw [← HR.out]; (first | rfl | simp), below_step (below_step HB0.out hb1) hb2⟩
    | true =>
      cases v2 with
      | false =>
        go_wp2_with (first | (go_at_call 33; with_reducible refine (C0.out w0 (Below.refl _ _)).mono ?_; rintro e w1 ⟨rfl, hb1⟩; replace p1 := cell_keep hb1 p1; replace p2 := cell_keep hb1 p2; replace p3 := cell_keep hb1 p3; replace p4 := cell_keep hb1 p4; replace q1 := cell_keep hb1 q1; replace q2 := cell_keep hb1 q2; replace q3 := cell_keep hb1 q3; replace q4 := cell_keep hb1 q4) | (go_at_call 33; with_reducible refine (C1.out w1 hb1).mono ?_; rintro e w2 ⟨rfl, hb2⟩; replace p2 := cell_keep hb2 p2; replace p3 := cell_keep hb2 p3; replace p4 := cell_keep hb2 p4; replace q2 := cell_keep hb2 q2; replace q3 := cell_keep hb2 q3; replace q4 := cell_keep hb2 q4) | (go_at_call 33; with_reducible refine (C2.out w2 (below_step hb1 hb2)).mono ?_; rintro e w3 ⟨rfl, hb3⟩; replace p3 := cell_keep hb3 p3; replace p4 := cell_keep hb3 p4; replace q3 := cell_keep hb3 q3; replace q4 := cell_keep hb3 q4))
        go_ret
        exact ⟨by rw [← HR.out]; (first | rfl | simp), below_step (below_step (below_step HB0.out hb1) hb2) hb3⟩
      | true =>
        have HV3' := HV3.out
        have HV4' := HV4.out
        cases v3 with
        | false =>
          go_wp2_with (first | (go_at_call 33; with_reducible refine (C0.out w0 (Below.refl _ _)).mono ?_; rintro e w1 ⟨rfl, hb1⟩; replace p1 := cell_keep hb1 p1; replace p2 := cell_keep hb1 p2; replace p3 := cell_keep hb1 p3; replace p4 := cell_keep hb1 p4; replace q1 := cell_keep hb1 q1; replace q2 := cell_keep hb1 q2; replace q3 := cell_keep hb1 q3; replace q4 := cell_keep hb1 q4) | (go_at_call 33; with_reducible refine (C1.out w1 hb1).mono ?_; rintro e w2 ⟨rfl, hb2⟩; replace p2 := cell_keep hb2 p2; replace p3 := cell_keep hb2 p3; replace p4 := cell_keep hb2 p4; replace q2 := cell_keep hb2 q2; replace q3 := cell_keep hb2 q3; replace q4 := cell_keep hb2 q4) | (go_at_call 33; with_reducible refine (C2.out w2 (below_step hb1 hb2)).mono ?_; rintro e w3 ⟨rfl, hb3⟩; replace p3 := cell_keep hb3 p3; replace p4 := cell_keep hb3 p4; replace q3 := cell_keep hb3 q3; replace q4 := cell_keep hb3 q4))
          go_ret
          exact ⟨by rw [← HR.out]; (first | rfl | simp), below_step (below_step (below_step HB0.out hb1) hb2) hb3⟩
        | true =>
          go_wp2_with (first | (go_at_call 33; with_reducible refine (C0.out w0 (Below.refl _ _)).mono ?_; rintro e w1 ⟨rfl, hb1⟩; replace p1 := cell_keep hb1 p1; replace p2 := cell_keep hb1 p2; replace p3 := cell_keep hb1 p3; replace p4 := cell_keep hb1 p4; replace q1 := cell_keep hb1 q1; replace q2 := cell_keep hb1 q2; replace q3 := cell_keep hb1 q3; replace q4 := cell_keep hb1 q4) | (go_at_call 33; with_reducible refine (C1.out w1 hb1).mono ?_; rintro e w2 ⟨rfl, hb2⟩; replace p2 := cell_keep hb2 p2; replace p3 := cell_keep hb2 p3; replace p4 := cell_keep hb2 p4; replace q2 := cell_keep hb2 q2; replace q3 := cell_keep hb2 q3; replace q4 := cell_keep hb2 q4) | (go_at_call 33; with_reducible refine (C2.out w2 (below_step hb1 hb2)).mono ?_; rintro e w3 ⟨rfl, hb3⟩; replace p3 := cell_keep hb3 p3; replace p4 := cell_keep hb3 p4; replace q3 := cell_keep hb3 q3; replace q4 := cell_keep hb3 q4))
          go_ret
          exact ⟨by rw [← HR.out]; (first | rfl | simp), below_step (below_step (below_step HB0.out hb1) hb2) hb3⟩
end Go.Proofs.Ytepbmgbomdekaaa
