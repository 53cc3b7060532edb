/-
  'l = append(l, x)', l of numbers and the call's own. (For seats without the texts of boards; there the same stands in Queue, Rows2, Wild and LawA.)
-/
import Derived.Test.YtepbmgbomdekaaaLib0
import Derived.WalkKit
import Derived.Maps.AppendAt
import Derived.Maps.OwnIn
import Derived.Laws.OwnMore
namespace Go.Proofs.Ytepbmgbomdekaaa
open Go Go.RowKit

theorem own_empty (W : World) : OwnInts W.heap.size (W.alloc (.cells #[] 3)) (.slice (some ⟨W.heap.size, 0, none⟩) 0 0) [] := by
  refine ⟨rfl, .inr ⟨W.heap.size, 0, #[], rfl, Nat.le_refl _, World.alloc_heap_new _ _, Nat.le_refl _, by omega, rfl, rfl⟩⟩

theorem own_lit (W : World) (x : Int) : OwnInts W.heap.size (W.alloc (.cells #[.int .i64 x] 3)) (.slice (some ⟨W.heap.size, 0, none⟩) 1 1) [x] :=
  ⟨rfl, .inr ⟨W.heap.size, 1, #[.int .i64 x], rfl, Nat.le_refl _, World.alloc_heap_new _ _, Nat.le_refl _, by unfold maxLen; omega, rfl, rfl⟩⟩
theorem OwnInts.cellAt {n : Nat} {W : World} {g k cap : Nat} {l : List Int} (h : OwnInts n W (.slice (some ⟨g, 0, none⟩) k cap) l) {j : Nat} (hj : j < l.length) :
    W.cell? ⟨g, j, none⟩ = some (.int .i64 (l[j]?.getD 0)) ∧ W.frozen? ⟨g, j, none⟩ = false := by
  obtain rfl : k = l.length := by
    rcases h.2 with ⟨h0, _⟩ | ⟨_, _, _, hv, _⟩
    · cases h0
    · cases hv; rfl
  refine ⟨?_, World.ownsRow.frozenAt h j⟩
  rw [World.ownsRow.cellAt h j (by omega)]
  simp [hj]

/-- Behind a store into one of its places. -/
theorem OwnInts.set {n : Nat} {W : World} {g k cap : Nat} {l : List Int} (h : OwnInts n W (.slice (some ⟨g, 0, none⟩) k cap) l) (j : Nat) (x : Int) : OwnInts n (W.setCell ⟨g, j, none⟩ (.int .i64 x)) (.slice (some ⟨g, 0, none⟩) k cap) (l.set j x) := by
  obtain rfl : k = l.length := by
    rcases h.2 with ⟨h0, _⟩ | ⟨_, _, _, hv, _⟩
    · cases h0
    · cases hv; rfl
  rcases h.2 with ⟨h0, _⟩ | ⟨g', cap', cur, hv, hg, hc, hn, hm, hs, ht⟩
  · cases h0
  cases hv
  refine ⟨by simp, .inr ⟨g, cap, cur.setIfInBounds j (.int .i64 x), by simp, hg, ?_, by simpa using hn, hm, by simpa using hs, ?_⟩⟩
  · simp [World.setCell, Array.getElem?_modify, hc]
  · rw [Nat.mul_one] at ht ⊢
    rw [List.length_set, Array.toList_setIfInBounds, List.take_set, ht, List.map_set]

theorem push_below {h : Nat} {w4 W WA W6 : World} {v : Value} {l : List Int} (hb : Below h w4 W) (hA : Below W.heap.size W WA) (hs : h ≤ W.heap.size) (ho : OwnInts h W v l) (hg : WA.grownBy W6 v.ownBlock) : Below h w4 W6 :=
  (hb.trans (hA.mono hs)).trans ((Alters.of_grown hg).below (Nat.le_trans hs hA.size) (fun k hk => (World.ownsRow.lt ho k hk.symm).1))

theorem step_append_at {w : World} {ops : Array Oper} {o : Oper} {a : Act} {K : Act → World → Prop} {Q : Exit → Act → World → Prop} {E : Prop} (hgd : o.guard = none) (s y : Operand)
    (ho : o.op = .call { callee := .builtin .append, args := #[s, y], argTypes := #[24, 24] }) (n : Nat) (v : Value) (l : List Int) (hs : a.eval s = v) (h : OwnInts n w v l) (hl : l.length < 2000) (hn : n ≤ w.heap.size)
    (ad : Addr) (x : Int) (hy : a.eval y = .slice (some ad) 1 1) (hx : w.cell? ad = some (.int .i64 x))
    (hK : ∀ g cap w', OwnInts n w' (.slice (some ⟨g, 0, none⟩) (l.length + 1) cap) (l ++ [x]) → w.grownBy w' v.ownBlock → (v.ownBlock = some g ∨ g = w.heap.size) → K (a.put o.dst (.slice (some ⟨g, 0, none⟩) (l.length + 1) cap)) w') :
    if Region.wanted o (yielded ops a.tmps) = true then Oper.wp Try.prog o a w K Q else E := by
  have hw : Region.wanted o (yielded ops a.tmps) = true := by simp [Region.wanted, hgd]
  rw [if_pos hw]
  obtain ⟨i0, hi, hz0, hz1, hz2⟩ := info_parts (show (Try.prog.info? 3).map (fun i => (i.zero, i.size, i.bytes)) = some (some (.int .i64 0), 1, 8) by kernel_rfl)
  obtain ⟨v', w', hr, h2, h3, _, h5⟩ := run_append_own_at (P := Try.prog) w n 24 o.type 3 i0 (.int .i64 0) 1 8 Try.underlying24 hi hz0 hz1 hz2 rfl (by decide) v l.length (l.map (Value.int .i64)) h ad 1 1 [.int .i64 x] rfl
    (by intro j u hj
        cases j with
        | zero => simp at hj; subst hj; simpa [Addr.add] using hx
        | succ j => simp at hj) (by simp [Value.oneCell']) (by unfold maxLen; omega) (by omega) hn
  obtain ⟨g, cap, rfl⟩ := ownsRow_succ h2
  unfold Oper.wp
  simp [execOp, ho, resolve, invoke, builtin, hs, hy, hr, Result.andThen]
  refine hK g cap w' ⟨by simp, ?_⟩ h3 ?_
  · rcases h2.2 with ⟨h0, _⟩ | ⟨g', cap', cur, hv, r⟩
    · cases h0
    · cases hv
      exact .inr ⟨g, cap, cur, by simp, by simpa using r⟩
  · rcases h5 with h | h
    · left; rw [← h]; rfl
    · right; simpa [Value.ownBlock] using h

/-- 'l = append(l, x)', l the call's own. -/
theorem wpList_push {w : World} {ops : Array Oper} {rest : List Oper} {o : Oper} {a : Act} {Q : Exit → Act → World → Prop} (hgd : o.guard = none) (s y : Operand)
    (ho : o.op = .call { callee := .builtin .append, args := #[s, y], argTypes := #[24, 24] }) (n : Nat) (v : Value) (l : List Int) (hs : a.eval s = v) (h : OwnInts n w v l) (hl : l.length < 2000) (hn : n ≤ w.heap.size)
    (ad : Addr) (x : Int) (hy : a.eval y = .slice (some ad) 1 1) (hx : w.cell? ad = some (.int .i64 x))
    (hK : ∀ g cap w', OwnInts n w' (.slice (some ⟨g, 0, none⟩) (l.length + 1) cap) (l ++ [x]) → w.grownBy w' v.ownBlock → (v.ownBlock = some g ∨ g = w.heap.size) → wpList Try.prog ops Q rest (a.put o.dst (.slice (some ⟨g, 0, none⟩) (l.length + 1) cap)) w') :
    wpList Try.prog ops Q (o :: rest) a w :=
  wpList_plain hgd fun K hK' => by
    have h2 := step_append_at (w := w) (ops := ops) (Q := Q) (K := K) (E := True) hgd s y ho n v l hs h hl hn ad x hy hx (fun g cap w' h1 h2 h3 => hK' _ _ (hK g cap w' h1 h2 h3))
    rw [if_pos (by simp [Region.wanted, hgd])] at h2
    exact h2

end Go.Proofs.Ytepbmgbomdekaaa
