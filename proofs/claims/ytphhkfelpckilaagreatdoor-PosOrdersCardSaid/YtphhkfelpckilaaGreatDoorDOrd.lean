/-
  PosOrders returns true, given that the examples do.
-/
import Derived.Test.YtphhkfelpckilaaGreatDoorDEq
namespace Go.Proofs.YtphhkfelpckilaaGreatDoor
open Go Go.RowKit

set_option maxRecDepth 100000 in
set_option maxHeartbeats 4000000 in
theorem porders_any (Lib4 : World → Prop) (hS : ∀ W, Lib4 W → Calls Tryz.prog 12 #[] W fun e w' => e = .returned (.bool true) ∧ Below W.heap.size W w')
    (hUp : ∀ W W', Lib4 W → Below W.heap.size W W' → Lib4 W')
    (p q r : PosS) (a a0 a1 b b0 b1 u u0 u1 : Option Addr) (c c0 c1 d d0 d1 x x0 x1 N : Nat) (w : World) (hL : Lib4 w) (hp : PosFit p) (hq : PosFit q) (hN : N ≤ w.heap.size) (hP : PosIn N w a a0 a1 p) (hQ : PosIn N w b b0 b1 q) (hR : PosIn N w u u0 u1 r) :
    Calls Tryz.prog 4 #[PosV a a0 a1 c c0 c1 p, PosV b b0 b1 d d0 d1 q, PosV u u0 u1 x x0 x1 r] w fun e w' => e = .returned (.bool true) ∧ Below w.heap.size w w' := by
  unfold PosV
  go_enter Tryz.func4, Tryz.ntmps4
  go_upto_region 1 with (fail)
  have hb0 : Below w.heap.size w (((w.alloc (.cells #[.slice a p.cells.length c, .slice a0 p.h0.length c0, .slice a1 p.h1.length c1, .int .i64 p.rights, .int .i64 p.side] 32)).alloc (.cells #[.slice b q.cells.length d, .slice b0 q.h0.length d0, .slice b1 q.h1.length d1, .int .i64 q.rights, .int .i64 q.side] 32)).alloc (.cells #[.slice u r.cells.length x, .slice u0 r.h0.length x0, .slice u1 r.h1.length x1, .int .i64 r.rights, .int .i64 r.side] 32)) := below_alloc (below_alloc (below_alloc (Below.refl _ _) _) _) _
  have Hp0 := Lib.hid (show (((w.alloc (.cells #[.slice a p.cells.length c, .slice a0 p.h0.length c0, .slice a1 p.h1.length c1, .int .i64 p.rights, .int .i64 p.side] 32)).alloc (.cells #[.slice b q.cells.length d, .slice b0 q.h0.length d0, .slice b1 q.h1.length d1, .int .i64 q.rights, .int .i64 q.side] 32)).alloc (.cells #[.slice u r.cells.length x, .slice u0 r.h0.length x0, .slice u1 r.h1.length x1, .int .i64 r.rights, .int .i64 r.side] 32)).cell? ⟨w.heap.size, 0, none⟩ = some (.slice a p.cells.length c) from cell_alloc_keep (cell_alloc_keep (cell_new_at _ _ _ _ _ _ rfl rfl) _) _)
  have Hp1 := Lib.hid (show (((w.alloc (.cells #[.slice a p.cells.length c, .slice a0 p.h0.length c0, .slice a1 p.h1.length c1, .int .i64 p.rights, .int .i64 p.side] 32)).alloc (.cells #[.slice b q.cells.length d, .slice b0 q.h0.length d0, .slice b1 q.h1.length d1, .int .i64 q.rights, .int .i64 q.side] 32)).alloc (.cells #[.slice u r.cells.length x, .slice u0 r.h0.length x0, .slice u1 r.h1.length x1, .int .i64 r.rights, .int .i64 r.side] 32)).cell? ⟨w.heap.size, 1, none⟩ = some (.slice a0 p.h0.length c0) from cell_alloc_keep (cell_alloc_keep (cell_new_at _ _ _ _ _ _ rfl rfl) _) _)
  have Hp2 := Lib.hid (show (((w.alloc (.cells #[.slice a p.cells.length c, .slice a0 p.h0.length c0, .slice a1 p.h1.length c1, .int .i64 p.rights, .int .i64 p.side] 32)).alloc (.cells #[.slice b q.cells.length d, .slice b0 q.h0.length d0, .slice b1 q.h1.length d1, .int .i64 q.rights, .int .i64 q.side] 32)).alloc (.cells #[.slice u r.cells.length x, .slice u0 r.h0.length x0, .slice u1 r.h1.length x1, .int .i64 r.rights, .int .i64 r.side] 32)).cell? ⟨w.heap.size, 2, none⟩ = some (.slice a1 p.h1.length c1) from cell_alloc_keep (cell_alloc_keep (cell_new_at _ _ _ _ _ _ rfl rfl) _) _)
  have Hp3 := Lib.hid (show (((w.alloc (.cells #[.slice a p.cells.length c, .slice a0 p.h0.length c0, .slice a1 p.h1.length c1, .int .i64 p.rights, .int .i64 p.side] 32)).alloc (.cells #[.slice b q.cells.length d, .slice b0 q.h0.length d0, .slice b1 q.h1.length d1, .int .i64 q.rights, .int .i64 q.side] 32)).alloc (.cells #[.slice u r.cells.length x, .slice u0 r.h0.length x0, .slice u1 r.h1.length x1, .int .i64 r.rights, .int .i64 r.side] 32)).cell? ⟨w.heap.size, 3, none⟩ = some (.int .i64 p.rights) from cell_alloc_keep (cell_alloc_keep (cell_new_at _ _ _ _ _ _ rfl rfl) _) _)
  have Hp4 := Lib.hid (show (((w.alloc (.cells #[.slice a p.cells.length c, .slice a0 p.h0.length c0, .slice a1 p.h1.length c1, .int .i64 p.rights, .int .i64 p.side] 32)).alloc (.cells #[.slice b q.cells.length d, .slice b0 q.h0.length d0, .slice b1 q.h1.length d1, .int .i64 q.rights, .int .i64 q.side] 32)).alloc (.cells #[.slice u r.cells.length x, .slice u0 r.h0.length x0, .slice u1 r.h1.length x1, .int .i64 r.rights, .int .i64 r.side] 32)).cell? ⟨w.heap.size, 4, none⟩ = some (.int .i64 p.side) from cell_alloc_keep (cell_alloc_keep (cell_new_at _ _ _ _ _ _ rfl rfl) _) _)
  have Hq0 := Lib.hid (show (((w.alloc (.cells #[.slice a p.cells.length c, .slice a0 p.h0.length c0, .slice a1 p.h1.length c1, .int .i64 p.rights, .int .i64 p.side] 32)).alloc (.cells #[.slice b q.cells.length d, .slice b0 q.h0.length d0, .slice b1 q.h1.length d1, .int .i64 q.rights, .int .i64 q.side] 32)).alloc (.cells #[.slice u r.cells.length x, .slice u0 r.h0.length x0, .slice u1 r.h1.length x1, .int .i64 r.rights, .int .i64 r.side] 32)).cell? ⟨w.heap.size + 1, 0, none⟩ = some (.slice b q.cells.length d) from cell_alloc_keep (cell_new_at _ _ _ _ _ _ (by simp) rfl) _)
  have Hq1 := Lib.hid (show (((w.alloc (.cells #[.slice a p.cells.length c, .slice a0 p.h0.length c0, .slice a1 p.h1.length c1, .int .i64 p.rights, .int .i64 p.side] 32)).alloc (.cells #[.slice b q.cells.length d, .slice b0 q.h0.length d0, .slice b1 q.h1.length d1, .int .i64 q.rights, .int .i64 q.side] 32)).alloc (.cells #[.slice u r.cells.length x, .slice u0 r.h0.length x0, .slice u1 r.h1.length x1, .int .i64 r.rights, .int .i64 r.side] 32)).cell? ⟨w.heap.size + 1, 1, none⟩ = some (.slice b0 q.h0.length d0) from cell_alloc_keep (cell_new_at _ _ _ _ _ _ (by simp) rfl) _)
  have Hq2 := Lib.hid (show (((w.alloc (.cells #[.slice a p.cells.length c, .slice a0 p.h0.length c0, .slice a1 p.h1.length c1, .int .i64 p.rights, .int .i64 p.side] 32)).alloc (.cells #[.slice b q.cells.length d, .slice b0 q.h0.length d0, .slice b1 q.h1.length d1, .int .i64 q.rights, .int .i64 q.side] 32)).alloc (.cells #[.slice u r.cells.length x, .slice u0 r.h0.length x0, .slice u1 r.h1.length x1, .int .i64 r.rights, .int .i64 r.side] 32)).cell? ⟨w.heap.size + 1, 2, none⟩ = some (.slice b1 q.h1.length d1) from cell_alloc_keep (cell_new_at _ _ _ _ _ _ (by simp) rfl) _)
  have Hq3 := Lib.hid (show (((w.alloc (.cells #[.slice a p.cells.length c, .slice a0 p.h0.length c0, .slice a1 p.h1.length c1, .int .i64 p.rights, .int .i64 p.side] 32)).alloc (.cells #[.slice b q.cells.length d, .slice b0 q.h0.length d0, .slice b1 q.h1.length d1, .int .i64 q.rights, .int .i64 q.side] 32)).alloc (.cells #[.slice u r.cells.length x, .slice u0 r.h0.length x0, .slice u1 r.h1.length x1, .int .i64 r.rights, .int .i64 r.side] 32)).cell? ⟨w.heap.size + 1, 3, none⟩ = some (.int .i64 q.rights) from cell_alloc_keep (cell_new_at _ _ _ _ _ _ (by simp) rfl) _)
  have Hq4 := Lib.hid (show (((w.alloc (.cells #[.slice a p.cells.length c, .slice a0 p.h0.length c0, .slice a1 p.h1.length c1, .int .i64 p.rights, .int .i64 p.side] 32)).alloc (.cells #[.slice b q.cells.length d, .slice b0 q.h0.length d0, .slice b1 q.h1.length d1, .int .i64 q.rights, .int .i64 q.side] 32)).alloc (.cells #[.slice u r.cells.length x, .slice u0 r.h0.length x0, .slice u1 r.h1.length x1, .int .i64 r.rights, .int .i64 r.side] 32)).cell? ⟨w.heap.size + 1, 4, none⟩ = some (.int .i64 q.side) from cell_alloc_keep (cell_new_at _ _ _ _ _ _ (by simp) rfl) _)
  have Hr0 := Lib.hid (show (((w.alloc (.cells #[.slice a p.cells.length c, .slice a0 p.h0.length c0, .slice a1 p.h1.length c1, .int .i64 p.rights, .int .i64 p.side] 32)).alloc (.cells #[.slice b q.cells.length d, .slice b0 q.h0.length d0, .slice b1 q.h1.length d1, .int .i64 q.rights, .int .i64 q.side] 32)).alloc (.cells #[.slice u r.cells.length x, .slice u0 r.h0.length x0, .slice u1 r.h1.length x1, .int .i64 r.rights, .int .i64 r.side] 32)).cell? ⟨w.heap.size + 1 + 1, 0, none⟩ = some (.slice u r.cells.length x) from cell_new_at _ _ _ _ _ _ (by simp) rfl)
  have Hr1 := Lib.hid (show (((w.alloc (.cells #[.slice a p.cells.length c, .slice a0 p.h0.length c0, .slice a1 p.h1.length c1, .int .i64 p.rights, .int .i64 p.side] 32)).alloc (.cells #[.slice b q.cells.length d, .slice b0 q.h0.length d0, .slice b1 q.h1.length d1, .int .i64 q.rights, .int .i64 q.side] 32)).alloc (.cells #[.slice u r.cells.length x, .slice u0 r.h0.length x0, .slice u1 r.h1.length x1, .int .i64 r.rights, .int .i64 r.side] 32)).cell? ⟨w.heap.size + 1 + 1, 1, none⟩ = some (.slice u0 r.h0.length x0) from cell_new_at _ _ _ _ _ _ (by simp) rfl)
  have Hr2 := Lib.hid (show (((w.alloc (.cells #[.slice a p.cells.length c, .slice a0 p.h0.length c0, .slice a1 p.h1.length c1, .int .i64 p.rights, .int .i64 p.side] 32)).alloc (.cells #[.slice b q.cells.length d, .slice b0 q.h0.length d0, .slice b1 q.h1.length d1, .int .i64 q.rights, .int .i64 q.side] 32)).alloc (.cells #[.slice u r.cells.length x, .slice u0 r.h0.length x0, .slice u1 r.h1.length x1, .int .i64 r.rights, .int .i64 r.side] 32)).cell? ⟨w.heap.size + 1 + 1, 2, none⟩ = some (.slice u1 r.h1.length x1) from cell_new_at _ _ _ _ _ _ (by simp) rfl)
  have Hr3 := Lib.hid (show (((w.alloc (.cells #[.slice a p.cells.length c, .slice a0 p.h0.length c0, .slice a1 p.h1.length c1, .int .i64 p.rights, .int .i64 p.side] 32)).alloc (.cells #[.slice b q.cells.length d, .slice b0 q.h0.length d0, .slice b1 q.h1.length d1, .int .i64 q.rights, .int .i64 q.side] 32)).alloc (.cells #[.slice u r.cells.length x, .slice u0 r.h0.length x0, .slice u1 r.h1.length x1, .int .i64 r.rights, .int .i64 r.side] 32)).cell? ⟨w.heap.size + 1 + 1, 3, none⟩ = some (.int .i64 r.rights) from cell_new_at _ _ _ _ _ _ (by simp) rfl)
  have Hr4 := Lib.hid (show (((w.alloc (.cells #[.slice a p.cells.length c, .slice a0 p.h0.length c0, .slice a1 p.h1.length c1, .int .i64 p.rights, .int .i64 p.side] 32)).alloc (.cells #[.slice b q.cells.length d, .slice b0 q.h0.length d0, .slice b1 q.h1.length d1, .int .i64 q.rights, .int .i64 q.side] 32)).alloc (.cells #[.slice u r.cells.length x, .slice u0 r.h0.length x0, .slice u1 r.h1.length x1, .int .i64 r.rights, .int .i64 r.side] 32)).cell? ⟨w.heap.size + 1 + 1, 4, none⟩ = some (.int .i64 r.side) from cell_new_at _ _ _ _ _ _ (by simp) rfl)
  generalize ((w.alloc (.cells #[.slice a p.cells.length c, .slice a0 p.h0.length c0, .slice a1 p.h1.length c1, .int .i64 p.rights, .int .i64 p.side] 32)).alloc (.cells #[.slice b q.cells.length d, .slice b0 q.h0.length d0, .slice b1 q.h1.length d1, .int .i64 q.rights, .int .i64 q.side] 32)).alloc (.cells #[.slice u r.cells.length x, .slice u0 r.h0.length x0, .slice u1 r.h1.length x1, .int .i64 r.rights, .int .i64 r.side] 32) = w0 at *
  have hl0 := World.block_lt_of_cell? _ _ Hr0.out
  go_wp2_with fail
  refine (hS w0 (hUp _ _ hL hb0)).mono ?_
  rintro e w1 ⟨rfl, hb1⟩
  have hbw := below_step hb0 hb1
  have h1 : Below w1.heap.size w1 w1 := Below.refl _ _
  have Gp0 := Lib.hid (cell_keep hb1 Hp0.out)
  have Gp1 := Lib.hid (cell_keep hb1 Hp1.out)
  have Gp2 := Lib.hid (cell_keep hb1 Hp2.out)
  have Gp3 := Lib.hid (cell_keep hb1 Hp3.out)
  have Gp4 := Lib.hid (cell_keep hb1 Hp4.out)
  have Gq0 := Lib.hid (cell_keep hb1 Hq0.out)
  have Gq1 := Lib.hid (cell_keep hb1 Hq1.out)
  have Gq2 := Lib.hid (cell_keep hb1 Hq2.out)
  have Gq3 := Lib.hid (cell_keep hb1 Hq3.out)
  have Gq4 := Lib.hid (cell_keep hb1 Hq4.out)
  have Gr0 := Lib.hid (cell_keep hb1 Hr0.out)
  have Gr1 := Lib.hid (cell_keep hb1 Hr1.out)
  have Gr2 := Lib.hid (cell_keep hb1 Hr2.out)
  have Gr3 := Lib.hid (cell_keep hb1 Hr3.out)
  have Gr4 := Lib.hid (cell_keep hb1 Hr4.out)
  have hl1 : w.heap.size + 1 + 1 < w1.heap.size := by have := hb1.size; have h9 : w.heap.size + 1 + 1 < w0.heap.size := hl0; omega
  have hPw := fun W (h : Below w1.heap.size w1 W) => hP.up hN (below_step hbw h)
  have hQw := fun W (h : Below w1.heap.size w1 W) => hQ.up hN (below_step hbw h)
  have hRw := fun W (h : Below w1.heap.size w1 W) => hR.up hN (below_step hbw h)
  have hNw := fun W (h : Below w1.heap.size w1 W) => Nat.le_trans hN (below_step hbw h).size
  have KA := Lib.hid (fun W (h : Below w1.heap.size w1 W) => compare_any p q a a0 a1 b b0 b1 c c0 c1 d d0 d1 N W hp (hNw W h) (hPw W h) (hQw W h))
  have KB := Lib.hid (fun W (h : Below w1.heap.size w1 W) => compare_any q r b b0 b1 u u0 u1 d d0 d1 x x0 x1 N W hq (hNw W h) (hQw W h) (hRw W h))
  have KC := Lib.hid (fun W (h : Below w1.heap.size w1 W) => compare_any p r a a0 a1 u u0 u1 c c0 c1 x x0 x1 N W hp (hNw W h) (hPw W h) (hRw W h))
  have KD := Lib.hid (fun W (h : Below w1.heap.size w1 W) => compare_any q p b b0 b1 a a0 a1 d d0 d1 c c0 c1 N W hq (hNw W h) (hQw W h) (hPw W h))
  have KE := Lib.hid (fun W (h : Below w1.heap.size w1 W) => compare_any p p a a0 a1 a a0 a1 c c0 c1 c c0 c1 N W hp (hNw W h) (hPw W h) (hPw W h))
  have KF := Lib.hid (fun W (h : Below w1.heap.size w1 W) => equal_any p q a a0 a1 b b0 b1 c c0 c1 d d0 d1 N W hp (hNw W h) (hPw W h) (hQw W h))
  obtain ⟨o1, o2, o3, o4, o5, o6⟩ := orders_ok p q r
  have o7 := cmpP_ok.rng q r
  have o8 := cmpP_ok.rng p r
  rw [eqB_iff] at KF
  rw [o2] at KD
  rw [o3] at KE
  clear o4
  generalize cmpP p q = A at *
  generalize cmpP q r = B at *
  generalize cmpP p r = C at *
  have hz : (A == 0) = decide (A = 0) := by rw [Bool.eq_iff_iff]; simp
  have O5 := Lib.hid o5
  have O6 := Lib.hid o6
  have O7 := Lib.hid o7
  have O8 := Lib.hid o8
  have HZ := Lib.hid hz
  generalize decide (A = 0) = z at *
  obtain ⟨oa, ob⟩ := o1
  clear hPw hQw hRw hNw hP hQ hR hp hq o2 o3 o5 o6 o7 o8 hz hb0 hb1 hL hS hUp
  clear Hp0 Hp1 Hp2 Hp3 Hp4
  clear Hq0 Hq1 Hq2 Hq3 Hq4
  clear Hr0 Hr1 Hr2 Hr3 Hr4
  have hlw1 : w.heap.size + 1 + 1 < w1.heap.size := by have := h1.size; omega
  have hmw1 : w.heap.size < w1.heap.size := by omega
  have hnw1 : w.heap.size + 1 < w1.heap.size := by omega
  have ep0 := cell_keep h1 Gp0.out
  have ep1 := cell_keep h1 Gp1.out
  have ep2 := cell_keep h1 Gp2.out
  have ep3 := cell_keep h1 Gp3.out
  have ep4 := cell_keep h1 Gp4.out
  have eq0 := cell_keep h1 Gq0.out
  have eq1 := cell_keep h1 Gq1.out
  have eq2 := cell_keep h1 Gq2.out
  have eq3 := cell_keep h1 Gq3.out
  have eq4 := cell_keep h1 Gq4.out
  go_wp2_with fail
  refine (KA.out _ h1).mono ?_
  rintro e v2 ⟨rfl, k2⟩
  have h2 := below_step h1 k2
  clear ep0 ep1 ep2 ep3 ep4 eq0 eq1 eq2 eq3 eq4 k2
  have hlv2 : w.heap.size + 1 + 1 < v2.heap.size := by have := h2.size; omega
  have hmv2 : w.heap.size < v2.heap.size := by omega
  have hnv2 : w.heap.size + 1 < v2.heap.size := by omega
  have eq0 := cell_keep h2 Gq0.out
  have eq1 := cell_keep h2 Gq1.out
  have eq2 := cell_keep h2 Gq2.out
  have eq3 := cell_keep h2 Gq3.out
  have eq4 := cell_keep h2 Gq4.out
  have er0 := cell_keep h2 Gr0.out
  have er1 := cell_keep h2 Gr1.out
  have er2 := cell_keep h2 Gr2.out
  have er3 := cell_keep h2 Gr3.out
  have er4 := cell_keep h2 Gr4.out
  go_wp2_with fail
  refine (KB.out _ h2).mono ?_
  rintro e v3 ⟨rfl, k3⟩
  have h3 := below_step h2 k3
  clear eq0 eq1 eq2 eq3 eq4 er0 er1 er2 er3 er4 k3
  have hlv3 : w.heap.size + 1 + 1 < v3.heap.size := by have := h3.size; omega
  have hmv3 : w.heap.size < v3.heap.size := by omega
  have hnv3 : w.heap.size + 1 < v3.heap.size := by omega
  have ep0 := cell_keep h3 Gp0.out
  have ep1 := cell_keep h3 Gp1.out
  have ep2 := cell_keep h3 Gp2.out
  have ep3 := cell_keep h3 Gp3.out
  have ep4 := cell_keep h3 Gp4.out
  have er0 := cell_keep h3 Gr0.out
  have er1 := cell_keep h3 Gr1.out
  have er2 := cell_keep h3 Gr2.out
  have er3 := cell_keep h3 Gr3.out
  have er4 := cell_keep h3 Gr4.out
  go_wp2_with fail
  refine (KC.out _ h3).mono ?_
  rintro e v4 ⟨rfl, k4⟩
  have h4 := below_step h3 k4
  clear ep0 ep1 ep2 ep3 ep4 er0 er1 er2 er3 er4 k4
  have hlv4 : w.heap.size + 1 + 1 < v4.heap.size := by have := h4.size; omega
  have hmv4 : w.heap.size < v4.heap.size := by omega
  have hnv4 : w.heap.size + 1 < v4.heap.size := by omega
  have eq0 := cell_keep h4 Gq0.out
  have eq1 := cell_keep h4 Gq1.out
  have eq2 := cell_keep h4 Gq2.out
  have eq3 := cell_keep h4 Gq3.out
  have eq4 := cell_keep h4 Gq4.out
  have ep0 := cell_keep h4 Gp0.out
  have ep1 := cell_keep h4 Gp1.out
  have ep2 := cell_keep h4 Gp2.out
  have ep3 := cell_keep h4 Gp3.out
  have ep4 := cell_keep h4 Gp4.out
  go_wp2_with fail
  refine (KD.out _ h4).mono ?_
  rintro e v5 ⟨rfl, k5⟩
  have h5 := below_step h4 k5
  clear eq0 eq1 eq2 eq3 eq4 ep0 ep1 ep2 ep3 ep4 k5
  have hlv5 : w.heap.size + 1 + 1 < v5.heap.size := by have := h5.size; omega
  have hmv5 : w.heap.size < v5.heap.size := by omega
  have hnv5 : w.heap.size + 1 < v5.heap.size := by omega
  have ep0 := cell_keep h5 Gp0.out
  have ep1 := cell_keep h5 Gp1.out
  have ep2 := cell_keep h5 Gp2.out
  have ep3 := cell_keep h5 Gp3.out
  have ep4 := cell_keep h5 Gp4.out
  go_wp2_with fail
  refine (KE.out _ h5).mono ?_
  rintro e v6 ⟨rfl, k6⟩
  have h6 := below_step h5 k6
  clear ep0 ep1 ep2 ep3 ep4 k6
  have hlv6 : w.heap.size + 1 + 1 < v6.heap.size := by have := h6.size; omega
  have hmv6 : w.heap.size < v6.heap.size := by omega
  have hnv6 : w.heap.size + 1 < v6.heap.size := by omega
  have ep0 := cell_keep h6 Gp0.out
  have ep1 := cell_keep h6 Gp1.out
  have ep2 := cell_keep h6 Gp2.out
  have ep3 := cell_keep h6 Gp3.out
  have ep4 := cell_keep h6 Gp4.out
  have eq0 := cell_keep h6 Gq0.out
  have eq1 := cell_keep h6 Gq1.out
  have eq2 := cell_keep h6 Gq2.out
  have eq3 := cell_keep h6 Gq3.out
  have eq4 := cell_keep h6 Gq4.out
  go_wp2_with fail
  refine (KF.out _ h6).mono ?_
  rintro e v7 ⟨rfl, k7⟩
  have h7 := below_step h6 k7
  clear ep0 ep1 ep2 ep3 ep4 eq0 eq1 eq2 eq3 eq4 k7
  have hz2 := HZ.out
  have tz : (z != z) = false := by simp
  have ta : decide (A < -1) = false := by simp; omega
  have tb : decide (1 < A) = false := by simp; omega
  go_upto_region 7 with (fail)
  have hA : A = -1 ∨ A = 0 ∨ A = 1 := by omega
  have hB := O7.out
  have hC := O8.out
  have i5 := O5.out
  have i6 := O6.out
  have hbF := below_step hbw h7
  clear ta tb hz2 tz O5 O6 O7 O8 HZ KA KB KC KD KE KF h1 h2 h3 h4 h5 h6 oa ob
  rcases hA with rfl | rfl | rfl <;> rcases hB with rfl | rfl | rfl <;> rcases hC with rfl | rfl | rfl
  all_goals first
    | (exfalso; omega)
    | (clear i5 i6
       go_wp2
       go_ret
       exact ⟨rfl, hbF⟩)
end Go.Proofs.YtphhkfelpckilaaGreatDoor
