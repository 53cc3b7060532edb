/-
  A made position that is then altered: what is known of it behind the change.
-/
import Derived.Test.YtphhkfelpckilaaGreatDoorGPos
namespace Go.Proofs.YtphhkfelpckilaaGreatDoor
open Go Go.RowKit

theorem own_ints {h : Nat} {W : World} {g k c : Nat} {l : List Int} (ho : OwnInts h W (.slice (some ⟨g, 0, none⟩) k c) l) : Ints W.heap.size W (some ⟨g, 0, none⟩) l := by
  obtain ⟨a, cap, e, hI⟩ := ho.ints
  cases e
  exact hI
theorem Ints.upto {n : Nat} {W : World} {a : Option Addr} {l : List Int} (h : Ints n W a l) (i : Nat) : Ints n W a (l.take i) := by
  rcases h with rfl | ⟨b, off, e, hn, hc⟩
  · exact .inl (by simp)
  · refine .inr ⟨b, off, e, hn, fun j hj => ?_⟩
    have hj' : j < i ∧ j < l.length := by simp at hj; omega
    rw [List.getElem?_take, if_pos hj'.1]
    exact hc j hj'.2
theorem own_cap1 {h : Nat} {W : World} {g k c : Nat} {l : List Int} (ho : OwnInts h W (.slice (some ⟨g, 0, none⟩) k c) l) : k ≤ c := by
  rcases ho.2 with ⟨h0, _⟩ | ⟨g', cap, cur, hv, _, _, hn, _⟩
  · cases h0
  · cases hv; omega
theorem OwnInts.up1 {h : Nat} {W : World} {v : Value} {l : List Int} {o : Obj} (ho : OwnInts h W v l) : OwnInts h (W.alloc o) v l := ho.alters (S := fun _ => False) (Alters.of_below (below_alloc (Below.refl _ W) o)) (fun _ h => h.elim)
/-- A made position in its box. -/
structure LimS (bc r g1 pb A B0 B1 c c0 c1 : Nat) (ks : List Bool) (p : PosS) (W : World) : Prop where
  box : W.heap[pb]? = some (.cells #[.slice (some ⟨A, 0, none⟩) p.cells.length c, .slice (some ⟨B0, 0, none⟩) p.h0.length c0, .slice (some ⟨B1, 0, none⟩) p.h1.length c1, .int .i64 p.rights, .int .i64 p.side] 32 (0, 0))
  own : PosOwn g1 W (some ⟨A, 0, none⟩) (some ⟨B0, 0, none⟩) (some ⟨B1, 0, none⟩) c c0 c1 p
  ne : ¬ A = B0 ∧ ¬ A = B1 ∧ ¬ B0 = B1
  good : PosGood bc r ks p
  le : g1 ≤ pb
theorem LimS.drew {bc r g1 pb A B0 B1 c c0 c1 : Nat} {ks : List Bool} {p : PosS} {W : World} (h : LimS bc r g1 pb A B0 B1 c c0 c1 ks p W) : LimS bc r g1 pb A B0 B1 c c0 c1 ks p W.drew := ⟨h.box, ⟨OwnInts.drew_ h.own.cells, OwnInts.drew_ h.own.h0, OwnInts.drew_ h.own.h1⟩, h.ne, h.good, h.le⟩
theorem LimS.lt {bc r g1 pb A B0 B1 c c0 c1 : Nat} {ks : List Bool} {p : PosS} {W : World} (h : LimS bc r g1 pb A B0 B1 c c0 c1 ks p W) : pb < W.heap.size := (Array.getElem?_eq_some_iff.1 h.box).1
theorem LimS.in_ {bc r g1 pb A B0 B1 c c0 c1 : Nat} {ks : List Bool} {p : PosS} {W : World} (h : LimS bc r g1 pb A B0 B1 c c0 c1 ks p W) : PosIn W.heap.size W (some ⟨A, 0, none⟩) (some ⟨B0, 0, none⟩) (some ⟨B1, 0, none⟩) p := h.own.in_
/-- The position that was altered; whether it is valid. -/
def LimR (bc r g1 pb : Nat) (ks : List Bool) (w5 : World) (bw : Bool) (W : World) : Prop :=
  ∃ (q : PosS) (a b0 b1 : Option Addr) (d d0 d1 : Nat), posB bc r ks q = bw ∧ W.heap[pb]? = some (.cells #[.slice a q.cells.length d, .slice b0 q.h0.length d0, .slice b1 q.h1.length d1, .int .i64 q.rights, .int .i64 q.side] 32 (0, 0)) ∧
    PosIn W.heap.size W a b0 b1 q ∧ PosFit q ∧ Below g1 w5 W
theorem LimR.drew {bc r g1 pb : Nat} {ks : List Bool} {w5 W : World} {bw : Bool} (h : LimR bc r g1 pb ks w5 bw W) : LimR bc r g1 pb ks w5 bw W.drew := by
  obtain ⟨q, a, b0, b1, d, d0, d1, h1, h2, h3, h4, h5⟩ := h
  exact ⟨q, a, b0, b1, d, d0, d1, h1, h2, h3.up (Nat.le_refl _) (Below.refl _ W).drew, h4, h5.drew⟩
section
variable {bc r g1 pb A B0 B1 c c0 c1 : Nat} {ks : List Bool} {p : PosS} {W : World}
theorem LimS.setA (h : LimS bc r g1 pb A B0 B1 c c0 c1 ks p W) {i : Nat} (n : Int) (hi : i < p.cells.length) : LimR bc r g1 pb ks W (upToB n (2 * ks.length)) (W.setCell ⟨A, i, none⟩ (.int .i64 n)) := by
  have al := alters_cell W A i (.int .i64 n)
  have hA := own_lt h.own.cells
  have hl := h.lt
  have hle := h.le
  refine ⟨{ p with cells := p.cells.set i n }, some ⟨A, 0, none⟩, some ⟨B0, 0, none⟩, some ⟨B1, 0, none⟩, c, c0, c1, posB_cells h.good.all n hi, ?_, ⟨?_, ?_, ?_⟩, ⟨?_, h.good.fit.h0, h.good.fit.h1⟩, al.below (by omega) (fun k hk => by omega)⟩
  · dsimp only
    rw [List.length_set]
    exact (al.block pb hl (fun e => own_ne h.own.cells h.box e.symm)).trans h.box
  · exact own_ints (h.own.cells.set i n)
  · exact own_ints (own_alt h.own.h0 al (fun e => h.ne.1 e.symm))
  · exact own_ints (own_alt h.own.h1 al (fun e => h.ne.2.1 e.symm))
  · dsimp only; rw [List.length_set]; exact h.good.fit.cells
theorem LimS.set0 (h : LimS bc r g1 pb A B0 B1 c c0 c1 ks p W) {k : Nat} (n : Int) (hk : k < p.h0.length) : LimR bc r g1 pb ks W (upToB n (if ks[k]?.getD false = true then 8 else 0)) (W.setCell ⟨B0, k, none⟩ (.int .i64 n)) := by
  have al := alters_cell W B0 k (.int .i64 n)
  have hA := own_lt h.own.h0
  have hl := h.lt
  have hle := h.le
  refine ⟨{ p with h0 := p.h0.set k n }, some ⟨A, 0, none⟩, some ⟨B0, 0, none⟩, some ⟨B1, 0, none⟩, c, c0, c1, posB_h0 h.good.all n hk, ?_, ⟨?_, ?_, ?_⟩, ⟨h.good.fit.cells, ?_, h.good.fit.h1⟩, al.below (by omega) (fun k hk => by omega)⟩
  · dsimp only
    rw [List.length_set]
    exact (al.block pb hl (fun e => own_ne h.own.h0 h.box e.symm)).trans h.box
  · exact own_ints (own_alt h.own.cells al (fun e => h.ne.1 e))
  · exact own_ints (h.own.h0.set k n)
  · exact own_ints (own_alt h.own.h1 al (fun e => h.ne.2.2 e.symm))
  · dsimp only; rw [List.length_set]; exact h.good.fit.h0
theorem LimS.set1 (h : LimS bc r g1 pb A B0 B1 c c0 c1 ks p W) {k : Nat} (n : Int) (hk : k < p.h1.length) : LimR bc r g1 pb ks W (upToB n (if ks[k]?.getD false = true then 8 else 0)) (W.setCell ⟨B1, k, none⟩ (.int .i64 n)) := by
  have al := alters_cell W B1 k (.int .i64 n)
  have hA := own_lt h.own.h1
  have hl := h.lt
  have hle := h.le
  refine ⟨{ p with h1 := p.h1.set k n }, some ⟨A, 0, none⟩, some ⟨B0, 0, none⟩, some ⟨B1, 0, none⟩, c, c0, c1, posB_h1 h.good.all n hk, ?_, ⟨?_, ?_, ?_⟩, ⟨h.good.fit.cells, h.good.fit.h0, ?_⟩, al.below (by omega) (fun k hk => by omega)⟩
  · dsimp only
    rw [List.length_set]
    exact (al.block pb hl (fun e => own_ne h.own.h1 h.box e.symm)).trans h.box
  · exact own_ints (own_alt h.own.cells al (fun e => h.ne.2.1 e))
  · exact own_ints (own_alt h.own.h0 al (fun e => h.ne.2.2 e))
  · exact own_ints (h.own.h1.set k n)
  · dsimp only; rw [List.length_set]; exact h.good.fit.h1
/-- Behind a store into the box. -/
theorem LimS.alt (h : LimS bc r g1 pb A B0 B1 c c0 c1 ks p W) (j : Nat) (v : Value) : PosIn (W.setCell ⟨pb, j, none⟩ v).heap.size (W.setCell ⟨pb, j, none⟩ v) (some ⟨A, 0, none⟩) (some ⟨B0, 0, none⟩) (some ⟨B1, 0, none⟩) p ∧ Below g1 W (W.setCell ⟨pb, j, none⟩ v) ∧
    (W.setCell ⟨pb, j, none⟩ v).heap[pb]? = some (.cells ((#[.slice (some ⟨A, 0, none⟩) p.cells.length c, .slice (some ⟨B0, 0, none⟩) p.h0.length c0, .slice (some ⟨B1, 0, none⟩) p.h1.length c1, .int .i64 p.rights, .int .i64 p.side] : Array Value).setIfInBounds j v) 32 (0, 0)) := by
  have al := alters_cell W pb j v
  have hl := h.lt
  have hle := h.le
  refine ⟨⟨?_, ?_, ?_⟩, al.below (by omega) (fun k hk => by omega), bx_set h.box j v⟩
  · exact own_ints (own_alt h.own.cells al (own_ne h.own.cells h.box))
  · exact own_ints (own_alt h.own.h0 al (own_ne h.own.h0 h.box))
  · exact own_ints (own_alt h.own.h1 al (own_ne h.own.h1 h.box))
theorem LimS.rights (h : LimS bc r g1 pb A B0 B1 c c0 c1 ks p W) (n : Int) : LimR bc r g1 pb ks W (upToB n (2 ^ r - 1)) (W.setCell ⟨pb, 3, none⟩ (.int .i64 n)) := by
  obtain ⟨h1, h2, h3⟩ := h.alt 3 (.int .i64 n)
  exact ⟨{ p with rights := n }, some ⟨A, 0, none⟩, some ⟨B0, 0, none⟩, some ⟨B1, 0, none⟩, c, c0, c1, posB_rights h.good.all n, h3, ⟨h1.cells, h1.h0, h1.h1⟩, ⟨h.good.fit.cells, h.good.fit.h0, h.good.fit.h1⟩, h2⟩
theorem LimS.side (h : LimS bc r g1 pb A B0 B1 c c0 c1 ks p W) (n : Int) : LimR bc r g1 pb ks W (upToB n 1) (W.setCell ⟨pb, 4, none⟩ (.int .i64 n)) := by
  obtain ⟨h1, h2, h3⟩ := h.alt 4 (.int .i64 n)
  exact ⟨{ p with side := n }, some ⟨A, 0, none⟩, some ⟨B0, 0, none⟩, some ⟨B1, 0, none⟩, c, c0, c1, posB_side h.good.all n, h3, ⟨h1.cells, h1.h0, h1.h1⟩, ⟨h.good.fit.cells, h.good.fit.h0, h.good.fit.h1⟩, h2⟩
theorem LimS.t0 (h : LimS bc r g1 pb A B0 B1 c c0 c1 ks p W) {k : Nat} (hk : k < ks.length) : LimR bc r g1 pb ks W false (W.setCell ⟨pb, 1, none⟩ (.slice (some ⟨B0, 0, none⟩) k c0)) := by
  obtain ⟨h1, h2, h3⟩ := h.alt 1 (.slice (some ⟨B0, 0, none⟩) k c0)
  have hl : (p.h0.take k).length = k := by rw [List.length_take, h.good.l0]; omega
  refine ⟨{ p with h0 := p.h0.take k }, some ⟨A, 0, none⟩, some ⟨B0, 0, none⟩, some ⟨B1, 0, none⟩, c, c0, c1, posB_t0 h.good.all hk, ?_, ⟨h1.cells, h1.h0.upto k, h1.h1⟩, ⟨h.good.fit.cells, ?_, h.good.fit.h1⟩, h2⟩
  · dsimp only; rw [hl]; exact h3
  · dsimp only; rw [hl]; have := h.good.fit.h0; rw [h.good.l0] at this; omega
theorem LimS.t1 (h : LimS bc r g1 pb A B0 B1 c c0 c1 ks p W) {k : Nat} (hk : k < ks.length) : LimR bc r g1 pb ks W false (W.setCell ⟨pb, 2, none⟩ (.slice (some ⟨B1, 0, none⟩) k c1)) := by
  obtain ⟨h1, h2, h3⟩ := h.alt 2 (.slice (some ⟨B1, 0, none⟩) k c1)
  have hl : (p.h1.take k).length = k := by rw [List.length_take, h.good.l1]; omega
  refine ⟨{ p with h1 := p.h1.take k }, some ⟨A, 0, none⟩, some ⟨B0, 0, none⟩, some ⟨B1, 0, none⟩, c, c0, c1, posB_t1 h.good.all hk, ?_, ⟨h1.cells, h1.h0, h1.h1.upto k⟩, ⟨h.good.fit.cells, h.good.fit.h0, ?_⟩, h2⟩
  · dsimp only; rw [hl]; exact h3
  · dsimp only; rw [hl]; have := h.good.fit.h1; rw [h.good.l1] at this; omega
/-- One cell more. -/
theorem LimS.more (h : LimS bc r g1 pb A B0 B1 c c0 c1 ks p W) {o : Obj} {W7 : World} {g cap : Nat} {n : Int} (hg : (W.alloc o).grownBy W7 (some A)) (ho : OwnInts g1 W7 (.slice (some ⟨g, 0, none⟩) (p.cells.length + 1) cap) (p.cells ++ [n])) (hw : some A = some g ∨ W.heap.size < g) :
    LimR bc r g1 pb ks W false (W7.setCell ⟨pb, 0, none⟩ (.slice (some ⟨g, 0, none⟩) (p.cells.length + 1) cap)) := by
  have hl := h.lt
  have hle := h.le
  have hA := own_lt h.own.cells
  have hB := own_lt h.own.h0
  have hC := own_lt h.own.h1
  have hAP := own_ne h.own.cells h.box
  have hBP := own_ne h.own.h0 h.box
  have hCP := own_ne h.own.h1 h.box
  have al7 : Alters (fun b => b = A) W W7 := (Alters.of_below (below_alloc (Below.refl _ W) o)).trans ((Alters.of_grown hg).mono (fun k _ h => by simpa using h))
  have al8 := alters_cell W7 pb 0 (.slice (some ⟨g, 0, none⟩) (p.cells.length + 1) cap)
  have al : Alters (fun b => b = A ∨ b = pb) W (W7.setCell ⟨pb, 0, none⟩ (.slice (some ⟨g, 0, none⟩) (p.cells.length + 1) cap)) := (al7.mono (fun _ _ h => .inl h)).trans (al8.mono (fun _ _ h => .inr h))
  have hgp : ¬ g = pb := by
    rcases hw with e | e
    · simp only [Option.some.injEq] at e; omega
    · omega
  refine ⟨{ p with cells := p.cells ++ [n] }, some ⟨g, 0, none⟩, some ⟨B0, 0, none⟩, some ⟨B1, 0, none⟩, cap, c0, c1, posB_more h.good.all n, ?_, ⟨?_, ?_, ?_⟩, ⟨?_, h.good.fit.h0, h.good.fit.h1⟩, al.below (by omega) (fun k hk => by omega)⟩
  · dsimp only
    rw [List.length_append]
    have := bx_set ((al7.block pb hl (fun e => hAP e.symm)).trans h.box) 0 (.slice (some ⟨g, 0, none⟩) (p.cells.length + 1) cap)
    exact this
  · exact own_ints (own_alt ho al8 hgp)
  · exact own_ints (own_alt2 h.own.h0 al (fun e => h.ne.1 e.symm) hBP)
  · exact own_ints (own_alt2 h.own.h1 al (fun e => h.ne.2.1 e.symm) hCP)
  · dsimp only
    have := h.good.small.cells
    rw [List.length_append]
    unfold maxLen
    simp only [List.length_cons, List.length_nil]
    omega
end
end Go.Proofs.YtphhkfelpckilaaGreatDoor
