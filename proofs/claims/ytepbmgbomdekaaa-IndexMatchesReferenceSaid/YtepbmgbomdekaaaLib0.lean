/-
  What a call owns, and what it alters.
-/
import Derived.Test.YtepbmgbomdekaaaBase
import Derived.Test.YtepbmgbomdekaaaProg
import Derived.Sort.OwnSortedInts
import Derived.RangeFuncBox
namespace Go.Proofs.Ytepbmgbomdekaaa
open Go Go.RowKit Go.Sort Go.Lib

/-- The slice v is of the call's own, from block n on, and holds the numbers l. -/
def OwnInts (n : Nat) (W : World) (v : Value) (l : List Int) : Prop := W.ownsRow n 3 1 v l.length (l.map (Value.int .i64))

theorem cell_new_at (W : World) (cs : Array Value) (t : TypeId) (b j : Nat) (v : Value) (hb : b = W.heap.size) (h : cs[j]? = some v) : (W.alloc (.cells cs t)).cell? ⟨b, j, none⟩ = some v := by
  subst hb
  unfold World.cell?
  rw [World.alloc_heap_new]
  simpa using h

theorem cell_drew {w : World} {p : Addr} {v : Value} (h : w.cell? p = some v) : w.drew.cell? p = some v := h

theorem boxed_new_at (W : World) (t : TypeId) (b : Nat) (v : Value) (hb : b = W.heap.size) : Boxed (W.alloc (.cells #[v] t)) b t v := by
  subst hb; exact Boxed.new W t v

/-- At most the blocks that S names have been turned. -/
structure Alters (S : Nat → Prop) (W W' : World) : Prop where
  os : W'.os = W.os
  tape : W'.tape = W.tape
  output : W'.output = W.output
  size : W.heap.size ≤ W'.heap.size
  block : ∀ k, k < W.heap.size → ¬ S k → W'.heap[k]? = W.heap[k]?

theorem Alters.below {S : Nat → Prop} {W W' : World} (h : Alters S W W') {n : Nat} (hn : n ≤ W.heap.size) (hS : ∀ k, S k → n ≤ k) : Below n W W' :=
  ⟨h.os, h.tape, h.output, h.size, fun k hk => h.block k (by omega) (fun hs => by have := hS k hs; omega)⟩
theorem Alters.keep {S : Nat → Prop} {W W' : World} (h : Alters S W W') {P : Nat → Prop} (hP : ∀ k, P k → k < W.heap.size ∧ ¬ S k) : Keep P W W' := ⟨h.size, fun k hk => h.block k (hP k hk).1 (hP k hk).2⟩
theorem Alters.boxed {S : Nat → Prop} {W W' : World} (h : Alters S W W') {B : Nat} {t : TypeId} {v : Value} (hb : Boxed W B t v) (hS : ¬ S B) : Boxed W' B t v := (h.block B hb.lt hS).trans hb
theorem Alters.of_grown {W W' : World} {row : Option Nat} (h : W.grownBy W' row) : Alters (fun k => some k = row) W W' := ⟨h.os, h.tape, h.output, h.size, fun k hk hs => h.block k hk hs⟩
theorem Alters.refl (S : Nat → Prop) (W : World) : Alters S W W := ⟨rfl, rfl, rfl, Nat.le_refl _, fun _ _ _ => rfl⟩
theorem Alters.mono {S T : Nat → Prop} {W W' : World} (h : Alters S W W') (hST : ∀ k, k < W.heap.size → S k → T k) : Alters T W W' := ⟨h.os, h.tape, h.output, h.size, fun k hk ht => h.block k hk (fun hs => ht (hST k hk hs))⟩
theorem Alters.trans {S : Nat → Prop} {A B C : World} (h : Alters S A B) (k : Alters S B C) : Alters S A C :=
  ⟨k.os.trans h.os, k.tape.trans h.tape, k.output.trans h.output, Nat.le_trans h.size k.size, fun i hi hs => (k.block i (Nat.lt_of_lt_of_le hi h.size) hs).trans (h.block i hi hs)⟩
theorem Alters.of_below {S : Nat → Prop} {W W' : World} (h : Below W.heap.size W W') : Alters S W W' := ⟨h.os, h.tape, h.output, h.size, fun k hk _ => h.block k hk⟩

/-- Behind 'x = append(x, ..)', x in a box of its own. -/
theorem appended_at {W w1 : World} {n B : Nat} {t e : TypeId} {size : Nat} {v v' : Value} {k m : Nat} {xs ys : List Value} {tmp : Obj}
    (hv : Boxed W B t v) (hte : t ≠ e) (hrow : W.ownsRow n e size v k xs) (hown' : w1.ownsRow n e size v' m ys) (hgrow : (W.alloc tmp).grownBy w1 v.ownBlock) :
    Boxed w1 B t v ∧ Boxed (w1.setCell ⟨B, 0, none⟩ v') B t v' ∧ (w1.setCell ⟨B, 0, none⟩ v').ownsRow n e size v' m ys ∧ KeepsOthers W (w1.setCell ⟨B, 0, none⟩ v') ∧
      Alters (fun k => k = B ∨ some k = v.ownBlock) W (w1.setCell ⟨B, 0, none⟩ v') := by
  have hv1 : Boxed w1 B t v := (hv.alloc tmp).kept hgrow (hv.not_row hte hrow)
  have hg2 := grownBy_setCell' w1 B v'
  refine ⟨hv1, hv1.set v', hown'.kept hg2 (.inr (hv1.not_row hte hown').symm), ?_, ?_⟩
  · refine ((KeepsOthers.alloc W tmp).trans (KeepsOthers.of_grownBy hgrow fun j o ej hj => ?_)).trans (KeepsOthers.setCell _ _ _)
    rcases (hrow.alloc tmp).2 with ⟨rfl, _⟩ | ⟨g, cap, cur, rfl, _, hgb, _⟩
    · simp [Value.ownBlock] at ej
    · obtain rfl : g = j := by simpa [Value.ownBlock] using ej
      rw [hgb] at hj; cases hj; rfl
  · refine ⟨hg2.os.trans hgrow.os, hg2.tape.trans hgrow.tape, hg2.output.trans hgrow.output, Nat.le_trans (Nat.le_trans (by simp) hgrow.size) hg2.size, fun k hk hs => ?_⟩
    have h0 : (W.alloc tmp).heap.size = W.heap.size + 1 := by simp
    have hgs := hgrow.size
    rw [hg2.block k (by omega) (fun e => hs (.inl (by cases e; rfl))), hgrow.block k (by omega) (fun e => hs (.inr e)), Below.heap_alloc _ _ _ hk]

theorem OwnInts.block {n : Nat} {W : World} {v : Value} {l : List Int} (h : W.ownsRow n 3 1 v l.length (l.map (Value.int .i64))) {k : Nat} (hk : some k = v.ownBlock) : n ≤ k ∧ k < W.heap.size := World.ownsRow.lt h k hk.symm

theorem OwnInts.form {n : Nat} {W : World} {v : Value} {l : List Int} (h : OwnInts n W v l) : (v = .slice none 0 0 ∧ l = []) ∨ ∃ g cap, v = .slice (some ⟨g, 0, none⟩) l.length cap ∧ n ≤ g ∧ g < W.heap.size := by
  rcases h.2 with ⟨h1, h2⟩ | ⟨g, cap, cur, hv, hg, hc, _⟩
  · exact .inl ⟨h1, List.length_eq_zero_iff.1 h2⟩
  · exact .inr ⟨g, cap, hv, hg, (Array.getElem?_eq_some_iff.1 hc).1⟩

theorem OwnInts.mono {n m : Nat} {W : World} {v : Value} {l : List Int} (h : OwnInts n W v l) (hm : m ≤ n) : OwnInts m W v l := by
  refine ⟨h.1, ?_⟩
  rcases h.2 with h2 | ⟨g, cap, cur, hv, hg, r⟩
  · exact .inl h2
  · exact .inr ⟨g, cap, cur, hv, Nat.le_trans hm hg, r⟩

/-- A block that is no cells is not the slice's. -/
theorem not_own {n : Nat} {W : World} {e : TypeId} {size k : Nat} {v : Value} {xs : List Value} (h : W.ownsRow n e size v k xs) {D : Nat} {o : Obj} (hD : W.heap[D]? = some o) (ho : o.isCells = false) : ¬ some D = v.ownBlock := by
  intro e
  rcases h.2 with ⟨rfl, _⟩ | ⟨g, cap, cur, rfl, _, hc, _⟩
  · simp [Value.ownBlock] at e
  · obtain rfl : D = g := by simpa [Value.ownBlock] using e
    rw [hD] at hc; cases hc; cases ho

theorem OwnInts.alters {n : Nat} {W W' : World} {v : Value} {l : List Int} (h : OwnInts n W v l) {S : Nat → Prop} (ha : Alters S W W') (hS : ∀ k, S k → ¬ some k = v.ownBlock) : OwnInts n W' v l := by
  refine ⟨h.1, ?_⟩
  rcases h.2 with h2 | ⟨g, cap, cur, rfl, hg, hc, r⟩
  · exact .inl h2
  · exact .inr ⟨g, cap, cur, rfl, hg, (ha.block g (Array.getElem?_eq_some_iff.1 hc).1 (fun hs => hS g hs rfl)).trans hc, r⟩

theorem OwnInts.ints {n : Nat} {W : World} {v : Value} {l : List Int} (h : OwnInts n W v l) : ∃ a cap, v = .slice a l.length cap ∧ Ints W.heap.size W a l := by
  rcases h.form with ⟨rfl, rfl⟩ | ⟨g, cap, rfl, hg, hlt⟩
  · exact ⟨none, 0, rfl, .inl rfl⟩
  · refine ⟨_, cap, rfl, .inr ⟨g, 0, rfl, hlt, fun j hj => ?_⟩⟩
    rw [Nat.zero_add, World.ownsRow.cellAt h j (by omega)]
    simp [hj]

theorem alters_cell (W : World) (B j : Nat) (v : Value) : Alters (fun k => k = B) W (W.setCell ⟨B, j, none⟩ v) := ⟨rfl, rfl, rfl, by simp [World.setCell], fun k _ hk => Below.heap_setCell _ _ _ _ hk⟩
theorem results_cell1 {fn : Func} {p : Tmp} {ty : TypeId} (h : fn.results = #[.cell p ty]) (tmps : Array Value) (P : Program) (w : World) :
    (results fn tmps).run P w = ((asAddr (tmps.getD p undef)).run P w).andThen fun a w1 => ((loadVar ty a).run P w1).andThen fun v w2 => .ok v w2 := by
  simp only [results, h]
  simp [Sem.run_bind, Result.andThen]
  split
  · split <;> simp_all
  · rfl
end Go.Proofs.Ytepbmgbomdekaaa
