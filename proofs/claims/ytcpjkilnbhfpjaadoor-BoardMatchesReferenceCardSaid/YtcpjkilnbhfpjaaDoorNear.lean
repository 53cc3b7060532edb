/-
  Near of the package board.
-/
import Derived.Test.YtcpjkilnbhfpjaaDoorSteps
import Derived.Test.YtcpjkilnbhfpjaaDoorLib
import Derived.Maps.AppendAt
namespace Go.Proofs.YtcpjkilnbhfpjaaDoor
open Go Go.RowKit Go.Shelf

attribute [local go_sem] Oper.semAt_some

theorem info_int : (Tryd.prog.info? 3).map (fun i => (i.zero, i.size, i.bytes)) = some (some (.int .i64 0), 1, 8) := by kernel_rfl

/-- The steps from c that lead to other cells. -/
def others (c : Int) (l : List Int) : List Int := l.filter fun v => v != c
theorem others_hit (c : Int) (l : List Int) {x : Int} (h : (x != c) = true) : others c (l ++ [x]) = others c l ++ [x] := by simp [others, h]
theorem others_miss (c : Int) (l : List Int) {x : Int} (h : (x != c) = false) : others c (l ++ [x]) = others c l := by simp [others, h]

/-- The cells to which a step leads from c, without c, each once, in increasing order. -/
def nearS (B : Brd) (c : Int) : List Int := Lib.compact ((others c (stepsS B c)).mergeSort fun x y => decide (x ≤ y))

theorem stepsKp_b {N Bb Bc n : Nat} (hN : N ≤ n) (hb : Bb < n) (hc : Bc < n) (W : World) (l : Nat) (o o' : Obj) (hl : n ≤ l) (hlo : W.heap[l]? = some o) (_ : o.isCells = false) (_ : o.isWalk = false) : stepsKp N Bb Bc W (W.putObj l o') := by
  have hlt := (Array.getElem?_eq_some_iff.1 hlo).1
  refine (Alters.of_grown (grownBy_putObj' W l o')).keep (fun k hk => ⟨by rcases hk with h | rfl | rfl <;> omega, fun e => ?_⟩)
  have e' : k = l := by simpa using e
  rcases hk with h | rfl | rfl <;> omega

set_option maxRecDepth 100000 in
set_option maxHeartbeats 2000000 in
theorem near_in (B : Brd) (hB : B.Ok) (an at_ : Option Addr) (cn ct : Nat) (c : Int) (N : Nat) (w : World) (hN : N ≤ w.heap.size) (hH : Held N w an at_ B) :
    CallsIn Fence.wide 4 Tryd.prog 18 #[B.val an cn at_ ct, .int .i64 c] w fun e w' => ∃ v, e = .returned v ∧ OwnInts w.heap.size w' v (nearS B c) ∧ Below w.heap.size w w' := by
  have hdirs := hB.dirs
  obtain ⟨i0, hi, hz0, hz1, hz2⟩ := info_parts info_int
  have f1 : Fence.wide.fn 37 := trivial
  have f2 : Fence.wide.fn 38 := trivial
  have f3 : Fence.wide.fn 39 := trivial
  refine callsIn_of_wp_marks Tryd.func18 rfl trivial ?_ rfl
  simp only [Tryd.ntmps18, List.size_toArray, List.length_cons, List.length_nil, Nat.reduceAdd, Nat.reduceSub, Array.replicate_succ, Array.replicate_zero, List.push_toArray, List.append_toArray, List.nil_append, List.cons_append]
  gi_wp2_with (gi_at_call 37; refine (callsIn_wide.2 (steps_any _ _ _ _ _)).mono ?_; rintro e w' ⟨rfl, rfl⟩)
  obtain ⟨W0, hW0⟩ : ∃ W0, (((((w.alloc (Obj.cells #[Value.int IntKind.i64 B.cells, Value.slice an B.next.length cn, Value.slice at_ B.turn.length ct] 31)).alloc (Obj.cells #[Value.int IntKind.i64 c] 3)).alloc (Obj.cells #[Value.slice none 0 0] 29)).alloc
      (Obj.cells #[Value.int IntKind.i64 B.cells, Value.slice an B.next.length cn, Value.slice at_ B.turn.length ct] 31)).alloc (Obj.cells #[Value.int IntKind.i64 c] 3)) = W0 := ⟨_, rfl⟩
  have hs0 : W0.heap.size = w.heap.size + 5 := by rw [← hW0]; simp
  have hB0 : Below w.heap.size w W0 := by rw [← hW0]; (repeat (first | exact Below.refl _ _ | assumption | refine below_alloc ?_ _ | refine Below.drew ?_ | refine below_drewN_ ?_ _ | refine below_step ?_ (by assumption)))
  have bC : Boxed W0 (w.heap.size + 1) 3 (.int .i64 c) := by
    rw [← hW0]; exact (((boxed_new_at _ _ _ _ (by simp)).alloc _).alloc _).alloc _
  have bO : Boxed W0 (w.heap.size + 1 + 1) 29 (.slice none 0 0) := by
    rw [← hW0]; exact ((boxed_new_at _ _ _ _ (by simp)).alloc _).alloc _
  have k0 : W0.cell? ⟨w.heap.size + 1 + 1 + 1, 0, none⟩ = some (.int .i64 B.cells) := by rw [← hW0]; exact cell_alloc_keep (cell_new_at _ _ _ _ _ _ (by simp) rfl) _
  have k1 : W0.cell? ⟨w.heap.size + 1 + 1 + 1, 1, none⟩ = some (.slice an B.next.length cn) := by rw [← hW0]; exact cell_alloc_keep (cell_new_at _ _ _ _ _ _ (by simp) rfl) _
  have k2 : W0.cell? ⟨w.heap.size + 1 + 1 + 1, 2, none⟩ = some (.slice at_ B.turn.length ct) := by rw [← hW0]; exact cell_alloc_keep (cell_new_at _ _ _ _ _ _ (by simp) rfl) _
  have k3 : W0.cell? ⟨w.heap.size + 1 + 1 + 1 + 1, 0, none⟩ = some (.int .i64 c) := by rw [← hW0]; exact cell_new_at _ _ _ _ _ _ (by simp) rfl
  rw [hW0]
  clear hW0
  refine wpIn_rangeFunc_ownG (N := B.next.length) rfl (by omega) (gf := 54) (lb := #[.pointer (some ⟨w.heap.size + 1 + 1 + 1, 0, none⟩), .pointer (some ⟨w.heap.size + 1 + 1 + 1 + 1, 0, none⟩)]) rfl trivial (enters_of Tryd.func54 (by kernel_rfl) rfl)
    (steps_stops 2 B hB an at_ cn ct c (w.heap.size + 1 + 1 + 1) (w.heap.size + 1 + 1 + 1 + 1) N W0 (by omega) (by omega) (by omega) k0 k1 k2 k3 (hH.up hN hB0)) (fun h k => h.trans k)
    (stepsKp_b (by omega) (by omega) (by omega)) (Below.refl _ _) (fun _ => rfl)
    (fun pre W => ((∃ v, Boxed W (w.heap.size + 1 + 1) 29 v ∧ W.ownsRow (w.heap.size + 5) 3 1 v (others c pre).length ((others c pre).map (Value.int .i64)) ∧ True) ∧ Boxed W (w.heap.size + 1) 3 (.int .i64 c)) ∧ Below w.heap.size W0 W)
    (fun _ _ _ => False)
    (OwnFrom.and (OwnFrom.and (Own.from (holdsRow_own (w.heap.size + 5) (w.heap.size + 1 + 1) 29 3 1 (fun pre => (others c pre).length) (fun pre => (others c pre).map (Value.int .i64)) (fun _ _ => True)) _) (Own.from (boxed_own _ _ _) _)) (ownFrom_below (by omega) (by omega)))
    (fun _ _ _ _ _ hs _ _ => hs)
    ⟨⟨⟨_, bO, World.ownsRow_nil _ _ _ _, trivial⟩, bC⟩, Below.refl _ _⟩
    (fun x => { tmps := #[B.val an cn at_ ct, Value.int IntKind.i64 c, Value.pointer (some { block := w.heap.size, off := 0 }),
          Value.pointer (some { block := w.heap.size + 1, off := 0 }), Value.slice none 0 0,
          Value.pointer (some { block := w.heap.size + 1 + 1, off := 0 }), .int .i64 x,
          Value.agg #[Value.int IntKind.i64 B.cells, Value.slice an B.next.length cn, Value.slice at_ B.turn.length ct],
          Value.int IntKind.i64 c,
          Value.func (Fn.func 54) #[]
            #[Value.pointer (some { block := w.heap.size + 1 + 1 + 1, off := 0 }),
              Value.pointer (some { block := w.heap.size + 1 + 1 + 1 + 1, off := 0 })],
          .int .i64 x, undef, undef, undef, undef, undef, undef, undef, undef, undef, undef, undef], defers := [] }) ?assign ?body ?done ?stop
  case assign =>
    intro l x W K hK
    gi_wp2
    exact hK
  case body =>
    rintro l pre x W ⟨⟨⟨v, hv, hrow, _⟩, hc⟩, hB1⟩ hlt
    have hcv := hv.cell
    have hcc := hc.cell
    have hsz := hB1.size
    have hpl : (others c pre).length ≤ pre.length := List.length_filter_le _ _
    by_cases hx : (x != c) = true
    · gi_wp2_with (gi_at_builtin; refine wpListIn_append_own _ rfl _ _ 29 rfl (w.heap.size + 5) 3 i0 (.int .i64 0) 1 8 Tryd.underlying29 hi hz0 hz1 hz2 rfl (by decide) _ _ _ rfl (hrow.alloc _) ⟨W.heap.size, 0, none⟩ 1 1 [.int .i64 x] rfl rfl (cell_one_new _ _ _) (by simp [Value.oneCell']) (by unfold maxLen; omega) (by omega) (by simp; omega) ?_; intro v' w1 hown' hgrow _; obtain ⟨g', cap', rfl⟩ := ownsRow_succ hown'; obtain ⟨hv1, hv2, hr2, hk2, hal⟩ := appended_at hv (by decide) hrow hown' hgrow; have hc1 := hv1.cell; have hf1 := hv1.frozen)
      have hS : ∀ k, k = w.heap.size + 1 + 1 ∨ some k = v.ownBlock → k = w.heap.size + 1 + 1 ∨ w.heap.size + 5 ≤ k := fun k hk => hk.imp id fun e => (World.ownsRow.lt hrow k e.symm).1
      refine ⟨hk2.from _, hal.keep (fun k hk => ⟨by rcases hk with h | rfl | rfl <;> omega, fun e => by have := hS k e; rcases hk with h | rfl | rfl <;> omega⟩), ⟨⟨_, hv2, by rw [others_hit c pre hx]; simpa using hr2, trivial⟩, hal.boxed hc (fun e => by have := hS _ e; omega)⟩, hB1.trans (hal.below (by omega) (fun k e => by have := hS _ e; omega))⟩
    · have hx' : (x != c) = false := by simpa using hx
      gi_wp2
      exact ⟨KeepsFrom.refl _ _, Keep.refl _ _, ⟨⟨v, hv, by rw [others_miss c pre hx']; exact hrow, trivial⟩, hc⟩, hB1⟩
  case done =>
    rintro D ys W hD rfl ⟨⟨⟨v, hv, hrow, _⟩, hc⟩, hB1⟩ hK
    have hcv := hv.cell
    have hsz := hB1.size
    have hol : (others c (stepsS B c)).length ≤ 8 := Nat.le_trans (List.length_filter_le _ _) (Nat.le_trans (stepsTo_le B c _) hdirs)
    gi_wp2_with fail
    refine (callsIn_wide.2 (sort_own (w.heap.size + 5) v (others c (stepsS B c)) W hrow (by omega))).mono ?_
    rintro e W2 ⟨rfl, hrow2, hg2⟩
    have hS : ∀ k, some k = v.ownBlock → w.heap.size + 5 ≤ k := fun k hk => (World.ownsRow.lt hrow k hk.symm).1
    have hv2 : Boxed W2 (w.heap.size + 1 + 1) 29 v := (Alters.of_grown hg2).boxed hv (fun e => by have := hS _ e; omega)
    have hcv2 := hv2.cell
    have hB2 : Below w.heap.size w W2 := (hB0.trans hB1).trans ((Alters.of_grown hg2).below (by omega) (fun k e => by have := hS _ e; omega))
    have hne := not_own hrow hK rfl
    have hDlt : D < W.heap.size := (Array.getElem?_eq_some_iff.1 hK).1
    have hK2 := ((Alters.of_grown hg2).block D hDlt hne).trans hK
    gi_wp2_with fail
    refine (callsIn_wide.2 (compact_own (w.heap.size + 5) v _ W2 hrow2 (by simp; omega))).mono ?_
    rintro e W3 ⟨v', rfl, hrow3, hg3⟩
    have hK3 := ((Alters.of_grown hg3).block D (Nat.lt_of_lt_of_le hDlt hg2.size) hne).trans hK2
    have hB3 : Below w.heap.size w W3 := hB2.trans ((Alters.of_grown hg3).below hB2.size (fun k e => by have := hS _ e; omega))
    gi_wp2
    refine ⟨by simp, .inl ⟨_, _, rfl, run_takeDeferred hK3, ?_⟩⟩
    exact ⟨_, results_tmp rfl _ _ _, v', rfl, ownsRow_putObj (hrow3.mono (by omega)) _ hK3 rfl, hB3.trans (belowK_b (w := w) (Nat.le_refl _) W3 D _ _ (by omega) hK3 rfl rfl)⟩
  case stop =>
    rintro D c pre W _ _ h _
    exact h.elim
end Go.Proofs.YtcpjkilnbhfpjaaDoor
