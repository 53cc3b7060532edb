/-
 Of the reference: Code and Of.
-/
import Derived.Test.YtbmcngoeinginaaGreatDoorKRef
import Derived.Test.YtbmcngoeinginaaGreatDoorCWrt
import Derived.Test.YtbmcngoeinginaaGreatDoorCSam
namespace Go.Proofs.YtbmcngoeinginaaGreatDoor
open Go Go.RowKit Go.Lib
set_option maxRecDepth 100000 in
theorem rcode_any (k s : Int) (w : World) : Calls Tryz.prog 19 #[.int .i64 k, .int .i64 s] w fun e w' => e = .returned (.int .i64 (codeS k s)) ∧ w' = w := by
 obtain ⟨A, hA⟩ : ∃ A, (decide (0 ≤ k) && decide (k ≤ 5)) = A := ⟨_, rfl⟩
 obtain ⟨B, hB⟩ : ∃ B, (decide (0 ≤ s) && decide (s ≤ 1)) = B := ⟨_, rfl⟩
 have H1 := Lib.hid (fun W => in3_any k 0 5 W)
 have H2 := Lib.hid (fun W => in3_any s 0 1 W)
 rw [hA] at H1
 rw [hB] at H2
 have HE : Hid (codeS k s = if (A && B) = true then 1 + 2 * k + s else 0) := Lib.hid (by
   unfold codeS;rw [← hA, ← hB];simp only [Bool.and_eq_true, decide_eq_true_eq]
   by_cases h : 0 ≤ k ∧ k < 6 ∧ 0 ≤ s ∧ s ≤ 1
   · rw [if_pos h, if_pos (by omega)]
   · rw [if_neg h, if_neg (by omega)])
 go_enter Tryz.func19, Tryz.ntmps19
 go_wp2_with fail
 refine (H1.out _).mono ?_
 rintro e w2 ⟨rfl, e2⟩
 subst w2
 cases A with
 | false =>
   go_wp2_with fail
   go_ret
   exact ⟨by rw [HE.out]; rfl, rfl⟩
 | true =>
   go_wp2_with fail
   refine (H2.out _).mono ?_;rintro e w3 ⟨rfl, e3⟩;subst w3
   cases B with
   | false =>
     go_wp2_with fail
     go_ret
     exact ⟨by rw [HE.out]; rfl, rfl⟩
   | true =>
     simp only [Bool.and_eq_true, decide_eq_true_eq] at hA hB;have w1 : IntKind.i64.wrap (2 * k) = 2 * k := IntWalk.i64_in _ (by omega);have w2' : IntKind.i64.wrap (1 + 2 * k) = 1 + 2 * k := IntWalk.i64_in _ (by omega);have w3' : IntKind.i64.wrap (1 + 2 * k + s) = 1 + 2 * k + s := IntWalk.i64_in _ (by omega)
     go_wp2_with fail
     go_ret
     exact ⟨by rw [HE.out]; rfl, rfl⟩
set_option maxRecDepth 100000 in
theorem rof_any (c : Int) (w : World) : Calls Tryz.prog 21 #[.int .i64 c] w fun e w' => e = .returned (.agg #[.int .i64 (manS c).1, .int .i64 (manS c).2]) ∧ Below w.heap.size w w' := by
 have hbA : Below w.heap.size w (w.alloc (.cells #[.int .i64 0, .int .i64 0] 49)) := below_alloc (Below.refl _ w) _
 have hZ : (w.alloc (.cells #[.int .i64 0, .int .i64 0] 49)).heap[w.heap.size]? = some (.cells #[.int .i64 0, .int .i64 0] 49 (0, 0)) := World.alloc_heap_new _ _
 obtain ⟨A, hA⟩ : ∃ A, (decide (1 ≤ c) && decide (c ≤ 12)) = A := ⟨_, rfl⟩
 have H1 := Lib.hid (fun W => in3_any c 1 12 W)
 rw [hA] at H1
 go_enter Tryz.func21, Tryz.ntmps21
 go_upto_region 1 with (fail)
 generalize w.alloc (.cells #[.int .i64 0, .int .i64 0] 49) = w1 at *
 go_wp2_with fail
 refine (H1.out w1).mono ?_
 rintro e w2 ⟨rfl, e0⟩
 subst w2
 have hlq := bx_lt hZ
 cases A with
 | false =>
   have HE : Hid (manS c = (-1, -1)) := Lib.hid (by
     unfold manS
     rw [if_neg (by rw [Bool.and_eq_false_iff, decide_eq_false_iff_not, decide_eq_false_iff_not] at hA; omega)])
   go_wp2_with (refine wpList_store_row rfl 49 (.tmp 2) (.tmp 6) rfl w.heap.size #[.int .i64 (-1), .int .i64 (-1)] rfl rfl 49 _ hZ info_man rfl (by simp [Value.oneCell']) ?_);have hQX : (w1.setRow w.heap.size #[.int .i64 (-1), .int .i64 (-1)]).heap[w.heap.size]? = some (.cells #[.int .i64 (-1), .int .i64 (-1)] 49 (0, 0)) := setRow_heap w1 w.heap.size _ _ _ _ hZ;refine bodyPost_ret_by (v := .agg #[.int .i64 (-1), .int .i64 (-1)]) (results_cell_row rfl _ _ w.heap.size 49 _ (0, 0) _ rfl hQX Tryz.underlying49 rfl info_man) rfl ?_;exact ⟨by rw [HE.out], hbA.trans ((setRow_alters w1 w.heap.size _).below hbA.size (fun b hb => Nat.le_of_eq (by exact hb.symm)))⟩
 | true =>
   have hc : 1 ≤ c ∧ c ≤ 12 := by simpa only [Bool.and_eq_true, decide_eq_true_eq] using hA
   have y1 : IntKind.i64.wrap (c - 1) = c - 1 := IntWalk.i64_in _ (by omega);have e1 : (c - 1).tdiv 2 = (c - 1) / 2 := Int.tdiv_eq_ediv_of_nonneg (by omega);have e2 : (c - 1).tmod 2 = (c - 1) % 2 := Int.tmod_eq_emod_of_nonneg (by omega);have y2 : IntKind.i64.wrap ((c - 1) / 2) = (c - 1) / 2 := IntWalk.i64_in _ (by omega);have y3 : IntKind.i64.wrap ((c - 1) % 2) = (c - 1) % 2 := IntWalk.i64_in _ (by omega)
   have HE : Hid (manS c = ((c - 1) / 2, (c - 1) % 2)) := Lib.hid (by unfold manS; rw [if_pos hc])
   go_wp2_with (refine wpList_store_row rfl 49 (.tmp 2) (.tmp 13) rfl w.heap.size #[.int .i64 ((c - 1) / 2), .int .i64 ((c - 1) % 2)] rfl rfl 49 _ hZ info_man rfl (by simp [Value.oneCell']) ?_);have hQX : (w1.setRow w.heap.size #[.int .i64 ((c - 1) / 2), .int .i64 ((c - 1) % 2)]).heap[w.heap.size]? = some (.cells #[.int .i64 ((c - 1) / 2), .int .i64 ((c - 1) % 2)] 49 (0, 0)) := setRow_heap w1 w.heap.size _ _ _ _ hZ;refine bodyPost_ret_by (v := .agg #[.int .i64 ((c - 1) / 2), .int .i64 ((c - 1) % 2)]) (results_cell_row rfl _ _ w.heap.size 49 _ (0, 0) _ rfl hQX Tryz.underlying49 rfl info_man) rfl ?_;exact ⟨by rw [HE.out], hbA.trans ((setRow_alters w1 w.heap.size _).below hbA.size (fun b hb => Nat.le_of_eq (by exact hb.symm)))⟩
end Go.Proofs.YtbmcngoeinginaaGreatDoor
