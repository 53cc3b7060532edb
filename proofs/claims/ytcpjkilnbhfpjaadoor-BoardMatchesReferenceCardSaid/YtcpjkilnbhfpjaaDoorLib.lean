/-
  The library's functions on slices of the call's own: sort, compact.
-/
import Derived.Test.YtcpjkilnbhfpjaaDoorBase
import Derived.Test.YtcpjkilnbhfpjaaDoorShelf
import Derived.Sort.OwnSortedInts
import Derived.RangeFuncBox
namespace Go.Proofs.YtcpjkilnbhfpjaaDoor
open Go Go.RowKit Go.Shelf Go.Sort Go.Lib

/-- The slice v is of the call's own, from block n on, and holds the numbers l. -/
def OwnInts (n : Nat) (W : World) (v : Value) (l : List Int) : Prop := W.ownsRow n 3 1 v l.length (l.map (Value.int .i64))

theorem cell_new_at (W : World) (cs : Array Value) (t : TypeId) (b j : Nat) (v : Value) (hb : b = W.heap.size) (h : cs[j]? = some v) : (W.alloc (.cells cs t)).cell? ⟨b, j, none⟩ = some v := by
  subst hb
  unfold World.cell?
  rw [World.alloc_heap_new]
  simpa using h

theorem cell_drew {w : World} {p : Addr} {v : Value} (h : w.cell? p = some v) : w.drew.cell? p = some v := h

theorem boxed_new_at (W : World) (t : TypeId) (b : Nat) (v : Value) (hb : b = W.heap.size) : Boxed (W.alloc (.cells #[v] t)) b t v := by
  subst hb; exact Boxed.new W t v

/-- At most the blocks that S names have been turned. -/
structure Alters (S : Nat → Prop) (W W' : World) : Prop where
  os : W'.os = W.os
  tape : W'.tape = W.tape
  output : W'.output = W.output
  size : W.heap.size ≤ W'.heap.size
  block : ∀ k, k < W.heap.size → ¬ S k → W'.heap[k]? = W.heap[k]?

theorem Alters.below {S : Nat → Prop} {W W' : World} (h : Alters S W W') {n : Nat} (hn : n ≤ W.heap.size) (hS : ∀ k, S k → n ≤ k) : Below n W W' :=
  ⟨h.os, h.tape, h.output, h.size, fun k hk => h.block k (by omega) (fun hs => by have := hS k hs; omega)⟩
theorem Alters.keep {S : Nat → Prop} {W W' : World} (h : Alters S W W') {P : Nat → Prop} (hP : ∀ k, P k → k < W.heap.size ∧ ¬ S k) : Keep P W W' := ⟨h.size, fun k hk => h.block k (hP k hk).1 (hP k hk).2⟩
theorem Alters.boxed {S : Nat → Prop} {W W' : World} (h : Alters S W W') {B : Nat} {t : TypeId} {v : Value} (hb : Boxed W B t v) (hS : ¬ S B) : Boxed W' B t v := (h.block B hb.lt hS).trans hb
theorem Alters.of_grown {W W' : World} {row : Option Nat} (h : W.grownBy W' row) : Alters (fun k => some k = row) W W' := ⟨h.os, h.tape, h.output, h.size, fun k hk hs => h.block k hk hs⟩
theorem Alters.refl (S : Nat → Prop) (W : World) : Alters S W W := ⟨rfl, rfl, rfl, Nat.le_refl _, fun _ _ _ => rfl⟩
theorem Alters.mono {S T : Nat → Prop} {W W' : World} (h : Alters S W W') (hST : ∀ k, k < W.heap.size → S k → T k) : Alters T W W' := ⟨h.os, h.tape, h.output, h.size, fun k hk ht => h.block k hk (fun hs => ht (hST k hk hs))⟩
theorem Alters.trans {S : Nat → Prop} {A B C : World} (h : Alters S A B) (k : Alters S B C) : Alters S A C :=
  ⟨k.os.trans h.os, k.tape.trans h.tape, k.output.trans h.output, Nat.le_trans h.size k.size, fun i hi hs => (k.block i (Nat.lt_of_lt_of_le hi h.size) hs).trans (h.block i hi hs)⟩
theorem Alters.of_below {S : Nat → Prop} {W W' : World} (h : Below W.heap.size W W') : Alters S W W' := ⟨h.os, h.tape, h.output, h.size, fun k hk _ => h.block k hk⟩

/-- Behind 'x = append(x, ..)', x in a box of its own. -/
theorem appended_at {W w1 : World} {n B : Nat} {t e : TypeId} {size : Nat} {v v' : Value} {k m : Nat} {xs ys : List Value} {tmp : Obj}
    (hv : Boxed W B t v) (hte : t ≠ e) (hrow : W.ownsRow n e size v k xs) (hown' : w1.ownsRow n e size v' m ys) (hgrow : (W.alloc tmp).grownBy w1 v.ownBlock) :
    Boxed w1 B t v ∧ Boxed (w1.setCell ⟨B, 0, none⟩ v') B t v' ∧ (w1.setCell ⟨B, 0, none⟩ v').ownsRow n e size v' m ys ∧ KeepsOthers W (w1.setCell ⟨B, 0, none⟩ v') ∧
      Alters (fun k => k = B ∨ some k = v.ownBlock) W (w1.setCell ⟨B, 0, none⟩ v') := by
  have hv1 : Boxed w1 B t v := (hv.alloc tmp).kept hgrow (hv.not_row hte hrow)
  have hg2 := grownBy_setCell' w1 B v'
  refine ⟨hv1, hv1.set v', hown'.kept hg2 (.inr (hv1.not_row hte hown').symm), ?_, ?_⟩
  · refine ((KeepsOthers.alloc W tmp).trans (KeepsOthers.of_grownBy hgrow fun j o ej hj => ?_)).trans (KeepsOthers.setCell _ _ _)
    rcases (hrow.alloc tmp).2 with ⟨rfl, _⟩ | ⟨g, cap, cur, rfl, _, hgb, _⟩
    · simp [Value.ownBlock] at ej
    · obtain rfl : g = j := by simpa [Value.ownBlock] using ej
      rw [hgb] at hj; cases hj; rfl
  · refine ⟨hg2.os.trans hgrow.os, hg2.tape.trans hgrow.tape, hg2.output.trans hgrow.output, Nat.le_trans (Nat.le_trans (by simp) hgrow.size) hg2.size, fun k hk hs => ?_⟩
    have h0 : (W.alloc tmp).heap.size = W.heap.size + 1 := by simp
    have hgs := hgrow.size
    rw [hg2.block k (by omega) (fun e => hs (.inl (by cases e; rfl))), hgrow.block k (by omega) (fun e => hs (.inr e)), Below.heap_alloc _ _ _ hk]

theorem OwnInts.block {n : Nat} {W : World} {v : Value} {l : List Int} (h : W.ownsRow n 3 1 v l.length (l.map (Value.int .i64))) {k : Nat} (hk : some k = v.ownBlock) : n ≤ k ∧ k < W.heap.size := World.ownsRow.lt h k hk.symm

theorem OwnInts.form {n : Nat} {W : World} {v : Value} {l : List Int} (h : OwnInts n W v l) : (v = .slice none 0 0 ∧ l = []) ∨ ∃ g cap, v = .slice (some ⟨g, 0, none⟩) l.length cap ∧ n ≤ g ∧ g < W.heap.size := by
  rcases h.2 with ⟨h1, h2⟩ | ⟨g, cap, cur, hv, hg, hc, _⟩
  · exact .inl ⟨h1, List.length_eq_zero_iff.1 h2⟩
  · exact .inr ⟨g, cap, hv, hg, (Array.getElem?_eq_some_iff.1 hc).1⟩

theorem OwnInts.mono {n m : Nat} {W : World} {v : Value} {l : List Int} (h : OwnInts n W v l) (hm : m ≤ n) : OwnInts m W v l := by
  refine ⟨h.1, ?_⟩
  rcases h.2 with h2 | ⟨g, cap, cur, hv, hg, r⟩
  · exact .inl h2
  · exact .inr ⟨g, cap, cur, hv, Nat.le_trans hm hg, r⟩

/-- A block that is no cells is not the slice's. -/
theorem not_own {n : Nat} {W : World} {e : TypeId} {size k : Nat} {v : Value} {xs : List Value} (h : W.ownsRow n e size v k xs) {D : Nat} {o : Obj} (hD : W.heap[D]? = some o) (ho : o.isCells = false) : ¬ some D = v.ownBlock := by
  intro e
  rcases h.2 with ⟨rfl, _⟩ | ⟨g, cap, cur, rfl, _, hc, _⟩
  · simp [Value.ownBlock] at e
  · obtain rfl : D = g := by simpa [Value.ownBlock] using e
    rw [hD] at hc; cases hc; cases ho

theorem OwnInts.alters {n : Nat} {W W' : World} {v : Value} {l : List Int} (h : OwnInts n W v l) {S : Nat → Prop} (ha : Alters S W W') (hS : ∀ k, S k → ¬ some k = v.ownBlock) : OwnInts n W' v l := by
  refine ⟨h.1, ?_⟩
  rcases h.2 with h2 | ⟨g, cap, cur, rfl, hg, hc, r⟩
  · exact .inl h2
  · exact .inr ⟨g, cap, cur, rfl, hg, (ha.block g (Array.getElem?_eq_some_iff.1 hc).1 (fun hs => hS g hs rfl)).trans hc, r⟩

theorem OwnInts.ints {n : Nat} {W : World} {v : Value} {l : List Int} (h : OwnInts n W v l) : ∃ a cap, v = .slice a l.length cap ∧ Ints W.heap.size W a l := by
  rcases h.form with ⟨rfl, rfl⟩ | ⟨g, cap, rfl, hg, hlt⟩
  · exact ⟨none, 0, rfl, .inl rfl⟩
  · refine ⟨_, cap, rfl, .inr ⟨g, 0, rfl, hlt, fun j hj => ?_⟩⟩
    rw [Nat.zero_add, World.ownsRow.cellAt h j (by omega)]
    simp [hj]

theorem OwnInts.holds {n : Nat} {W : World} {g cap : Nat} {l : List Int} (h : OwnInts n W (.slice (some ⟨g, 0, none⟩) l.length cap) l) : Holds (Value.int .i64) W g 0 l.toArray := by
  intro j hj
  have hj' : j < l.length := by simpa using hj
  refine ⟨?_, World.ownsRow.frozenAt h _⟩
  rw [Nat.zero_add, World.ownsRow.cellAt h j (by omega)]
  simp [hj']

theorem sort_own (n : Nat) (v : Value) (l : List Int) (w : World) (h : OwnInts n w v l) (hl : l.length < 4611686018427387904) :
    Calls Tryd.prog 38 #[v] w fun e w' => e = .returned (.tuple #[]) ∧ OwnInts n w' v (l.mergeSort fun x y => decide (x ≤ y)) ∧ w.grownBy w' v.ownBlock := by
  have hlen : (l.mergeSort fun x y => decide (x ≤ y)).length = l.length := by simp
  rcases h.form with ⟨rfl, rfl⟩ | ⟨g, cap, rfl, hg, hlt⟩
  · refine (Tryd.slices_Sort_int_none none 0 w).mono ?_
    rintro e w' ⟨he, rfl⟩
    exact ⟨he, by simpa [OwnInts] using h, ⟨rfl, rfl, rfl, Nat.le_refl _, fun _ _ _ => rfl⟩⟩
  · refine (Tryd.slices_Sort_int g 0 cap l w h.holds hlt hl).mono ?_
    rintro e w' ⟨he, m, os, rfl⟩
    refine ⟨he, ?_, grownBy_sortedI _⟩
    rcases h.2 with ⟨h1, _⟩ | ⟨g', cap', cur, hv, hg', hc, hn, hm, hs, _⟩
    · cases h1
    · cases hv
      have := ownsRow_sortedI (w := w) (base := n) (g := g) (cap := cap) (n := m) (e := 3) (os := os) (cur := cur) (ss := l) (ts := l.mergeSort fun x y => decide (x ≤ y)) hlen hg hc hn hm hs
      unfold OwnInts
      rw [hlen]; exact this

theorem eql_int3 : EqlAt Tryd.prog 3 (Value.int .i64) (fun x y => decide (x = y)) := EqlAt.intD _ _ _
theorem neq_int3 : NeqAt Tryd.prog 3 (Value.int .i64) (fun x y => decide (x = y)) := NeqAt.intD _ _ _

set_option maxHeartbeats 400000 in
theorem compact_nil (w : World) : Calls Tryd.prog 39 #[.slice none 0 0] w fun e w' => e = .returned (.slice none 0 0) ∧ w = w' := by
  go_enter Tryd.func39, Tryd.ntmps39
  go_wp2
  go_ret
  exact ⟨rfl, rfl⟩

theorem compact_own (n : Nat) (v : Value) (l : List Int) (w : World) (h : OwnInts n w v l) (hl : l.length ≤ 9223372036854775807) :
    Calls Tryd.prog 39 #[v] w fun e w' => ∃ v', e = .returned v' ∧ OwnInts n w' v' (compact l) ∧ w.grownBy w' v.ownBlock := by
  rcases h.form with ⟨rfl, rfl⟩ | ⟨g, cap, rfl, hg, hlt⟩
  · refine (compact_nil w).mono ?_
    rintro e w' ⟨he, rfl⟩
    exact ⟨_, he, by simpa [OwnInts, compact, compactUpTo] using h, ⟨rfl, rfl, rfl, Nat.le_refl _, fun _ _ _ => rfl⟩⟩
  · rcases h.2 with ⟨h1, _⟩ | ⟨g', cap', cur, hv, hg', hc, hn, hm, hs, _⟩
    · cases h1
    cases hv
    have hcl : (compactUpTo l.toArray l.toArray.size).length ≤ l.toArray.size := by
      unfold compactUpTo; rw [List.length_map]; exact Nat.le_trans (List.length_filter_le _ _) (by simp)
    refine (Tryd.slices_Compact (Value.int .i64) (fun _ => rfl) eql_int3 neq_int3 0 Tryd.zeroValue3 g 0 cap l.toArray w h.holds (by simpa using hl) (by simpa using hn)).mono ?_
    rintro e w' ⟨he, q, rfl⟩
    refine ⟨_, he, ?_, ?_⟩
    · have hh := heap_sortedI (n := q) (os := #[]) (compactUpTo l.toArray l.toArray.size ++ List.replicate (l.toArray.size - (compactUpTo l.toArray l.toArray.size).length) (0 : Int)).toArray hc
      rw [grow_empty] at hh
      refine ⟨by simp, .inr ⟨g, cap, _, rfl, hg, hh, ?_, hm, by simp [putCells, hs], ?_⟩⟩
      · simp [compact] at hcl ⊢; omega
      · have hts : (compactUpTo l.toArray l.toArray.size ++ List.replicate (l.toArray.size - (compactUpTo l.toArray l.toArray.size).length) (0 : Int)).length = l.length := by
          rw [List.length_append, List.length_replicate]; simp at hcl ⊢; omega
        have e := take_putCellsI cur (compactUpTo l.toArray l.toArray.size ++ List.replicate (l.toArray.size - (compactUpTo l.toArray l.toArray.size).length) (0 : Int)) (by rw [hts, hs]; omega)
        have hk : (compact l).length = (compactUpTo l.toArray l.toArray.size).length := by simp [compact]
        have e2 : ∀ (L : List Value) (k m : Nat), k ≤ m → L.take k = (L.take m).take k := fun L k m hkm => by rw [List.take_take, Nat.min_eq_left hkm]
        have hkm : (compact l).length ≤ (compactUpTo l.toArray l.toArray.size ++ List.replicate (l.toArray.size - (compactUpTo l.toArray l.toArray.size).length) (0 : Int)).length := by rw [hk, List.length_append]; exact Nat.le_add_right _ _
        rw [Nat.mul_one, e2 _ (compact l).length _ hkm, e, List.map_append, hk, List.take_append_of_le_length (by simp), List.take_of_length_le (by simp)]
        simp [compact]
    · have := grownBy_sortedI (w := w) (g := g) (n := q) (os := #[]) (compactUpTo l.toArray l.toArray.size ++ List.replicate (l.toArray.size - (compactUpTo l.toArray l.toArray.size).length) (0 : Int)).toArray
      rwa [grow_empty] at this
end Go.Proofs.YtcpjkilnbhfpjaaDoor
