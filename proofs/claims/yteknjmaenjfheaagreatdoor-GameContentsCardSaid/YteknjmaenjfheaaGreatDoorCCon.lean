/-
  GameContents of the laws.
-/
import Derived.Test.YteknjmaenjfheaaGreatDoorCSam
namespace Go.Proofs.YteknjmaenjfheaaGreatDoor
open Go Go.RowKit Go.Lib
attribute [local irreducible] Go.wpQuiet

theorem man_code {n : Int} (h : 1 ≤ n ∧ n ≤ 12) : codeS (manS n).1 (manS n).2 = n := by
  unfold manS
  rw [if_pos h]
  unfold codeS
  dsimp only
  rw [if_pos (by omega)]
  omega
theorem code_man {k s : Int} (h : 0 ≤ k ∧ k < 6 ∧ 0 ≤ s ∧ s ≤ 1) : manS (codeS k s) = (k, s) ∧ 1 ≤ codeS k s ∧ codeS k s ≤ 12 := by
  unfold codeS
  rw [if_pos h]
  unfold manS
  rw [if_pos (by omega)]
  refine ⟨?_, by omega, by omega⟩
  ext <;> dsimp only <;> omega

structure TwC (w : World) (q : Nat) (t : IntKind) (x y : Int) (W : World) : Prop where
  b : Below w.heap.size w W
  c0 : W.cell? ⟨q, 0, none⟩ = some (.int t x)
  c1 : W.cell? ⟨q, 1, none⟩ = some (.int t y)
theorem TwC.up {w W W' : World} {q : Nat} {t : IntKind} {x y : Int} (h : TwC w q t x y W) (hb : Below W.heap.size W W') : TwC w q t x y W' := ⟨below_step h.b hb, cell_keep hb h.c0, cell_keep hb h.c1⟩

set_option maxRecDepth 100000 in
set_option maxHeartbeats 2000000 in
theorem con_any (a b n : Int) (w : World) (ha : -32768 ≤ a ∧ a ≤ 32767) (hb : -32768 ≤ b ∧ b ≤ 32767) (hL : LibIn w) (hR : ResIn w) :
    Calls Tryz.prog 6 #[.agg #[.int .i16 a, .int .i16 b], .int .i64 n] w fun e w' => e = .returned (.bool true) ∧ Below w.heap.size w w' := by
  have hbA : Below w.heap.size w (w.alloc (.cells #[.int .i16 a, .int .i16 b] 59)) := below_alloc (Below.refl _ w) _
  have hx1 : (w.alloc (.cells #[.int .i16 a, .int .i16 b] 59)).heap[w.heap.size]? = some (.cells #[.int .i16 a, .int .i16 b] 59 (0, 0)) := hpn _ rfl
  have ya : IntKind.i64.wrap a = a := IntWalk.i64_in _ (by omega)
  have yb : IntKind.i64.wrap b = b := IntWalk.i64_in _ (by omega)
  have HS := Lib.hid (fun W (h : Below w.heap.size w W) => sanity_any W (hL.up h) (hR.up h))
  clear hL hR
  go_enter Tryz.func6, Tryz.ntmps6
  go_upto_region 1 with (fail)
  generalize w.alloc (.cells #[.int .i16 a, .int .i16 b] 59) = w1 at *
  go_wp2_with fail
  refine (HS.out w1 hbA).mono ?_
  rintro e w2 ⟨rfl, hb2⟩
  have hx2 := (hb2.block _ (bx_lt hx1)).trans hx1
  have HB2 := Lib.hid (below_step hbA hb2)
  go_upto_region 2 with (fail)
  have hC : TwC w w.heap.size .i16 a b w2 := ⟨HB2.out, bx_cell hx2 0 rfl, bx_cell hx2 1 rfl⟩
  have hC2 := hC.up (Below.refl _ _).drew
  clear hC hx2 hx1 hbA hb2 HS
  refine wp_region_quiet (C := TwC w w.heap.size .i16 a b) (by kernel_rfl) (by kernel_rfl) hC2 ?_
  clear hC2
  dsimp only
  iterate 8
    refine wpQuiet_val (v := ?_) (by rfl) ?_ ?_
    rotate_left
    · ((intro W hW; (try cases hW); go_simp); try with_reducible rfl)
    (try simp only [Act.put, List.setIfInBounds_toArray, List.set_cons_zero, List.set_cons_succ])
  refine wpQuiet_nil (fun w3 hW => ?_)
  have HBS := Lib.hid hW.b
  clear hW HB2
  by_cases h0 : a < 0
  · have t0 : decide (0 ≤ a) = false := by rw [decide_eq_false_iff_not]; omega
    have HC : Hid (codeS a b = 0) := Lib.hid (by unfold codeS; rw [if_neg (by omega)])
    go_wp2_with fail
    refine (code_any a b _).mono ?_
    rintro e wC ⟨rfl, eC⟩
    subst eC
    rw [HC.out]
    go_wp2_with fail
    refine (lman_any n _).mono ?_
    rintro e wM ⟨rfl, hbM⟩
    have HBM := Lib.hid (below_step HBS.out hbM)
    clear hbM
    by_cases n1 : n < 1
    · have t1 : decide (n < 1) = true := by simpa using n1
      rw [show manS n = (-1, -1) from by unfold manS; rw [if_neg (by omega)]]
      have HBF : Hid (Below w.heap.size w (wM.alloc (.cells #[.int .i64 (-1), .int .i64 (-1)] 49))) := Lib.hid (below_step HBM.out (below_alloc (Below.refl _ _) _))
      go_wp2
      go_ret
      exact ⟨by simp, HBF.out⟩
    have t1 : decide (n < 1) = false := by simpa using n1
    by_cases n2 : 12 < n
    · have t2 : decide (12 < n) = true := by simpa using n2
      rw [show manS n = (-1, -1) from by unfold manS; rw [if_neg (by omega)]]
      have HBF : Hid (Below w.heap.size w (wM.alloc (.cells #[.int .i64 (-1), .int .i64 (-1)] 49))) := Lib.hid (below_step HBM.out (below_alloc (Below.refl _ _) _))
      go_wp2
      go_ret
      exact ⟨by simp, HBF.out⟩
    have t2 : decide (12 < n) = false := by simpa using n2
    have HMC := Lib.hid (man_code (n := n) (by omega))
    generalize (manS n).1 = m1 at *
    generalize (manS n).2 = m2 at *
    have HBF : Hid (Below w.heap.size w (wM.alloc (.cells #[.int .i64 m1, .int .i64 m2] 49))) := Lib.hid (below_step HBM.out (below_alloc (Below.refl _ _) _))
    go_wp2_with fail
    refine (code_any m1 m2 _).mono ?_
    rintro e wC ⟨rfl, eC⟩
    subst eC
    rw [HMC.out]
    go_wp2
    go_ret
    exact ⟨by simp, HBF.out⟩
  have t0 : decide (0 ≤ a) = true := by rw [decide_eq_true_eq]; omega
  by_cases h1 : 6 ≤ a
  · have t5 : decide (a < 6) = false := by rw [decide_eq_false_iff_not]; omega
    have HC : Hid (codeS a b = 0) := Lib.hid (by unfold codeS; rw [if_neg (by omega)])
    go_wp2_with fail
    refine (code_any a b _).mono ?_
    rintro e wC ⟨rfl, eC⟩
    subst eC
    rw [HC.out]
    go_wp2_with fail
    refine (lman_any n _).mono ?_
    rintro e wM ⟨rfl, hbM⟩
    have HBM := Lib.hid (below_step HBS.out hbM)
    clear hbM
    by_cases n1 : n < 1
    · have t1 : decide (n < 1) = true := by simpa using n1
      rw [show manS n = (-1, -1) from by unfold manS; rw [if_neg (by omega)]]
      have HBF : Hid (Below w.heap.size w (wM.alloc (.cells #[.int .i64 (-1), .int .i64 (-1)] 49))) := Lib.hid (below_step HBM.out (below_alloc (Below.refl _ _) _))
      go_wp2
      go_ret
      exact ⟨by simp, HBF.out⟩
    have t1 : decide (n < 1) = false := by simpa using n1
    by_cases n2 : 12 < n
    · have t2 : decide (12 < n) = true := by simpa using n2
      rw [show manS n = (-1, -1) from by unfold manS; rw [if_neg (by omega)]]
      have HBF : Hid (Below w.heap.size w (wM.alloc (.cells #[.int .i64 (-1), .int .i64 (-1)] 49))) := Lib.hid (below_step HBM.out (below_alloc (Below.refl _ _) _))
      go_wp2
      go_ret
      exact ⟨by simp, HBF.out⟩
    have t2 : decide (12 < n) = false := by simpa using n2
    have HMC := Lib.hid (man_code (n := n) (by omega))
    generalize (manS n).1 = m1 at *
    generalize (manS n).2 = m2 at *
    have HBF : Hid (Below w.heap.size w (wM.alloc (.cells #[.int .i64 m1, .int .i64 m2] 49))) := Lib.hid (below_step HBM.out (below_alloc (Below.refl _ _) _))
    go_wp2_with fail
    refine (code_any m1 m2 _).mono ?_
    rintro e wC ⟨rfl, eC⟩
    subst eC
    rw [HMC.out]
    go_wp2
    go_ret
    exact ⟨by simp, HBF.out⟩
  have t5 : decide (a < 6) = true := by rw [decide_eq_true_eq]; omega
  by_cases h2 : b < 0
  · have t6 : decide (0 ≤ b) = false := by rw [decide_eq_false_iff_not]; omega
    have HC : Hid (codeS a b = 0) := Lib.hid (by unfold codeS; rw [if_neg (by omega)])
    go_wp2_with fail
    refine (code_any a b _).mono ?_
    rintro e wC ⟨rfl, eC⟩
    subst eC
    rw [HC.out]
    go_wp2_with fail
    refine (lman_any n _).mono ?_
    rintro e wM ⟨rfl, hbM⟩
    have HBM := Lib.hid (below_step HBS.out hbM)
    clear hbM
    by_cases n1 : n < 1
    · have t1 : decide (n < 1) = true := by simpa using n1
      rw [show manS n = (-1, -1) from by unfold manS; rw [if_neg (by omega)]]
      have HBF : Hid (Below w.heap.size w (wM.alloc (.cells #[.int .i64 (-1), .int .i64 (-1)] 49))) := Lib.hid (below_step HBM.out (below_alloc (Below.refl _ _) _))
      go_wp2
      go_ret
      exact ⟨by simp, HBF.out⟩
    have t1 : decide (n < 1) = false := by simpa using n1
    by_cases n2 : 12 < n
    · have t2 : decide (12 < n) = true := by simpa using n2
      rw [show manS n = (-1, -1) from by unfold manS; rw [if_neg (by omega)]]
      have HBF : Hid (Below w.heap.size w (wM.alloc (.cells #[.int .i64 (-1), .int .i64 (-1)] 49))) := Lib.hid (below_step HBM.out (below_alloc (Below.refl _ _) _))
      go_wp2
      go_ret
      exact ⟨by simp, HBF.out⟩
    have t2 : decide (12 < n) = false := by simpa using n2
    have HMC := Lib.hid (man_code (n := n) (by omega))
    generalize (manS n).1 = m1 at *
    generalize (manS n).2 = m2 at *
    have HBF : Hid (Below w.heap.size w (wM.alloc (.cells #[.int .i64 m1, .int .i64 m2] 49))) := Lib.hid (below_step HBM.out (below_alloc (Below.refl _ _) _))
    go_wp2_with fail
    refine (code_any m1 m2 _).mono ?_
    rintro e wC ⟨rfl, eC⟩
    subst eC
    rw [HMC.out]
    go_wp2
    go_ret
    exact ⟨by simp, HBF.out⟩
  have t6 : decide (0 ≤ b) = true := by rw [decide_eq_true_eq]; omega
  by_cases h3 : 1 < b
  · have t7 : decide (b ≤ 1) = false := by rw [decide_eq_false_iff_not]; omega
    have HC : Hid (codeS a b = 0) := Lib.hid (by unfold codeS; rw [if_neg (by omega)])
    go_wp2_with fail
    refine (code_any a b _).mono ?_
    rintro e wC ⟨rfl, eC⟩
    subst eC
    rw [HC.out]
    go_wp2_with fail
    refine (lman_any n _).mono ?_
    rintro e wM ⟨rfl, hbM⟩
    have HBM := Lib.hid (below_step HBS.out hbM)
    clear hbM
    by_cases n1 : n < 1
    · have t1 : decide (n < 1) = true := by simpa using n1
      rw [show manS n = (-1, -1) from by unfold manS; rw [if_neg (by omega)]]
      have HBF : Hid (Below w.heap.size w (wM.alloc (.cells #[.int .i64 (-1), .int .i64 (-1)] 49))) := Lib.hid (below_step HBM.out (below_alloc (Below.refl _ _) _))
      go_wp2
      go_ret
      exact ⟨by simp, HBF.out⟩
    have t1 : decide (n < 1) = false := by simpa using n1
    by_cases n2 : 12 < n
    · have t2 : decide (12 < n) = true := by simpa using n2
      rw [show manS n = (-1, -1) from by unfold manS; rw [if_neg (by omega)]]
      have HBF : Hid (Below w.heap.size w (wM.alloc (.cells #[.int .i64 (-1), .int .i64 (-1)] 49))) := Lib.hid (below_step HBM.out (below_alloc (Below.refl _ _) _))
      go_wp2
      go_ret
      exact ⟨by simp, HBF.out⟩
    have t2 : decide (12 < n) = false := by simpa using n2
    have HMC := Lib.hid (man_code (n := n) (by omega))
    generalize (manS n).1 = m1 at *
    generalize (manS n).2 = m2 at *
    have HBF : Hid (Below w.heap.size w (wM.alloc (.cells #[.int .i64 m1, .int .i64 m2] 49))) := Lib.hid (below_step HBM.out (below_alloc (Below.refl _ _) _))
    go_wp2_with fail
    refine (code_any m1 m2 _).mono ?_
    rintro e wC ⟨rfl, eC⟩
    subst eC
    rw [HMC.out]
    go_wp2
    go_ret
    exact ⟨by simp, HBF.out⟩
  have t7 : decide (b ≤ 1) = true := by rw [decide_eq_true_eq]; omega
  obtain ⟨hcm, hc1, hc2⟩ := code_man (k := a) (s := b) (by omega)
  have HCM := Lib.hid hcm
  clear hcm
  go_wp2_with fail
  refine (code_any a b _).mono ?_
  rintro e wC ⟨rfl, eC⟩
  subst eC
  generalize codeS a b = C at *
  have u1 : (C != 0) = true := by simp; omega
  have u2 : decide (C < 0) = false := by rw [decide_eq_false_iff_not]; omega
  have u3 : decide (12 < C) = false := by rw [decide_eq_false_iff_not]; omega
  clear hc1 hc2 h0 h1 h2 h3
  go_wp2_with fail
  refine (lman_any C _).mono ?_
  rintro e w5 ⟨rfl, hb5⟩
  rw [HCM.out]
  replace HBS := Lib.hid (below_step HBS.out hb5)
  clear hb5
  go_wp2_with fail
  refine (lman_any n _).mono ?_
  rintro e wM ⟨rfl, hbM⟩
  have HBM := Lib.hid (below_step HBS.out hbM)
  clear hbM
  by_cases n1 : n < 1
  · have t1 : decide (n < 1) = true := by simpa using n1
    rw [show manS n = (-1, -1) from by unfold manS; rw [if_neg (by omega)]]
    have HBF : Hid (Below w.heap.size w (wM.alloc (.cells #[.int .i64 (-1), .int .i64 (-1)] 49))) := Lib.hid (below_step HBM.out (below_alloc (Below.refl _ _) _))
    go_wp2
    go_ret
    exact ⟨by simp, HBF.out⟩
  have t1 : decide (n < 1) = false := by simpa using n1
  by_cases n2 : 12 < n
  · have t2 : decide (12 < n) = true := by simpa using n2
    rw [show manS n = (-1, -1) from by unfold manS; rw [if_neg (by omega)]]
    have HBF : Hid (Below w.heap.size w (wM.alloc (.cells #[.int .i64 (-1), .int .i64 (-1)] 49))) := Lib.hid (below_step HBM.out (below_alloc (Below.refl _ _) _))
    go_wp2
    go_ret
    exact ⟨by simp, HBF.out⟩
  have t2 : decide (12 < n) = false := by simpa using n2
  have HMC := Lib.hid (man_code (n := n) (by omega))
  generalize (manS n).1 = m1 at *
  generalize (manS n).2 = m2 at *
  have HBF : Hid (Below w.heap.size w (wM.alloc (.cells #[.int .i64 m1, .int .i64 m2] 49))) := Lib.hid (below_step HBM.out (below_alloc (Below.refl _ _) _))
  go_wp2_with fail
  refine (code_any m1 m2 _).mono ?_
  rintro e wC ⟨rfl, eC⟩
  subst eC
  rw [HMC.out]
  go_wp2
  go_ret
  exact ⟨by simp, HBF.out⟩
end Go.Proofs.YteknjmaenjfheaaGreatDoor
