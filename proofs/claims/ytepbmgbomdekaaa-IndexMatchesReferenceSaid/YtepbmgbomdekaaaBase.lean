/-
  The data of boards as plain lists, and what it means that memory holds them.
-/
import Derived.Below
import Derived.WalkKit
import Derived.WalkSmall
import Derived.WalkSpells
import Derived.Lib.Hide
namespace Go.Proofs.Ytepbmgbomdekaaa
open Go Go.RowKit

/-- The slice whose first place is a, of as many places as l is long, holds the numbers l, in a block below n. -/
def Ints (n : Nat) (W : World) (a : Option Addr) (l : List Int) : Prop :=
  l = [] ∨ ∃ b off, a = some ⟨b, off, none⟩ ∧ b < n ∧ ∀ j, j < l.length → W.cell? ⟨b, off + j, none⟩ = some (.int .i64 (l[j]?.getD 0))

theorem Ints.below {n : Nat} {A B : World} {a : Option Addr} {l : List Int} (h : Ints n A a l) (hb : Below n A B) : Ints n B a l := by
  rcases h with h | ⟨b, off, e, hn, hc⟩
  · exact .inl h
  · exact .inr ⟨b, off, e, hn, fun j hj => (hb.cell (p := ⟨b, off + j, none⟩) hn).trans (hc j hj)⟩

theorem Ints.mono {n m : Nat} {A : World} {a : Option Addr} {l : List Int} (h : Ints n A a l) (hm : n ≤ m) : Ints m A a l := by
  rcases h with h | ⟨b, off, e, hn, hc⟩
  · exact .inl h
  · exact .inr ⟨b, off, e, by omega, hc⟩

theorem Ints.at_ {n : Nat} {W : World} {a : Option Addr} {l : List Int} (h : Ints n W a l) {j : Nat} (hj : j < l.length) :
    ∃ b off, a = some ⟨b, off, none⟩ ∧ b < n ∧ W.cell? ⟨b, off + j, none⟩ = some (.int .i64 (l[j]?.getD 0)) := by
  rcases h with rfl | ⟨b, off, e, hn, hc⟩
  · simp at hj
  · exact ⟨b, off, e, hn, hc j hj⟩

/-- .. of rows: each place holds a slice that holds the numbers of that row. -/
def Rws (n : Nat) (W : World) (a : Option Addr) (ls : List (List Int)) : Prop :=
  ls = [] ∨ ∃ b off, a = some ⟨b, off, none⟩ ∧ b < n ∧ ∀ j, j < ls.length → ∃ aj cj, W.cell? ⟨b, off + j, none⟩ = some (.slice aj (ls[j]?.getD []).length cj) ∧ Ints n W aj (ls[j]?.getD [])

theorem Rws.below {n : Nat} {A B : World} {a : Option Addr} {l : List (List Int)} (h : Rws n A a l) (hb : Below n A B) : Rws n B a l := by
  rcases h with h | ⟨b, off, e, hn, hc⟩
  · exact .inl h
  · refine .inr ⟨b, off, e, hn, fun j hj => ?_⟩
    obtain ⟨aj, cj, h1, h2⟩ := hc j hj
    exact ⟨aj, cj, (hb.cell (p := ⟨b, off + j, none⟩) hn).trans h1, h2.below hb⟩

theorem Rws.mono {n m : Nat} {A : World} {a : Option Addr} {l : List (List Int)} (h : Rws n A a l) (hm : n ≤ m) : Rws m A a l := by
  rcases h with h | ⟨b, off, e, hn, hc⟩
  · exact .inl h
  · refine .inr ⟨b, off, e, by omega, fun j hj => ?_⟩
    obtain ⟨aj, cj, h1, h2⟩ := hc j hj
    exact ⟨aj, cj, h1, h2.mono hm⟩

theorem Rws.at_ {n : Nat} {W : World} {a : Option Addr} {l : List (List Int)} (h : Rws n W a l) {j : Nat} (hj : j < l.length) :
    ∃ b off aj cj, a = some ⟨b, off, none⟩ ∧ b < n ∧ W.cell? ⟨b, off + j, none⟩ = some (.slice aj (l[j]?.getD []).length cj) ∧ Ints n W aj (l[j]?.getD []) := by
  rcases h with rfl | ⟨b, off, e, hn, hc⟩
  · simp at hj
  · obtain ⟨aj, cj, h1, h2⟩ := hc j hj
    exact ⟨b, off, aj, cj, e, hn, h1, h2⟩

/-- The blocks that P names are as they were, and no block has gone. -/
def Keep (P : Nat → Prop) (W W' : World) : Prop := W.heap.size ≤ W'.heap.size ∧ ∀ k, P k → W'.heap[k]? = W.heap[k]?
theorem Keep.trans {P : Nat → Prop} {A B C : World} (h : Keep P A B) (k : Keep P B C) : Keep P A C := ⟨Nat.le_trans h.1 k.1, fun i hi => (k.2 i hi).trans (h.2 i hi)⟩
theorem Keep.refl (P : Nat → Prop) (A : World) : Keep P A A := ⟨Nat.le_refl _, fun _ _ => rfl⟩
theorem Keep.cell {P : Nat → Prop} {A B : World} (h : Keep P A B) {p : Addr} (hp : P p.block) : B.cell? p = A.cell? p := World.cell?_of_block (h.2 _ hp)
theorem Keep.mono {P Q : Nat → Prop} {A B : World} (h : Keep P A B) (hq : ∀ k, Q k → P k) : Keep Q A B := ⟨h.1, fun k hk => h.2 k (hq k hk)⟩
theorem Below.keep {A B : World} (h : Below A.heap.size A B) {P : Nat → Prop} (hP : ∀ k, P k → k < A.heap.size) : Keep P A B := ⟨h.size, fun k hk => h.block k (hP k hk)⟩
theorem below_grown {A B : World} (h : Below A.heap.size A B) : A.grownBy B none := ⟨h.os, h.tape, h.output, h.size, fun k hk _ => h.block k hk⟩

theorem Ints.keep {n : Nat} {A B : World} {a : Option Addr} {l : List Int} (h : Ints n A a l) {P : Nat → Prop} (hb : Keep P A B) (hP : ∀ k, k < n → P k) : Ints n B a l := by
  rcases h with h | ⟨b, off, e, hn, hc⟩
  · exact .inl h
  · exact .inr ⟨b, off, e, hn, fun j hj => (hb.cell (p := ⟨b, off + j, none⟩) (hP _ hn)).trans (hc j hj)⟩
theorem Rws.keep {n : Nat} {A B : World} {a : Option Addr} {l : List (List Int)} (h : Rws n A a l) {P : Nat → Prop} (hb : Keep P A B) (hP : ∀ k, k < n → P k) : Rws n B a l := by
  rcases h with h | ⟨b, off, e, hn, hc⟩
  · exact .inl h
  · refine .inr ⟨b, off, e, hn, fun j hj => ?_⟩
    obtain ⟨aj, cj, h1, h2⟩ := hc j hj
    exact ⟨aj, cj, (hb.cell (p := ⟨b, off + j, none⟩) (hP _ hn)).trans h1, h2.keep hb hP⟩

/-- A board as plain data. -/
structure Brd where
  cells : Int
  next : List (List Int)
  turn : List Int

/-- A board's value: three cells. -/
abbrev Brd.val (B : Brd) (an : Option Addr) (cn : Nat) (at_ : Option Addr) (ct : Nat) : Value :=
  .agg #[.int .i64 B.cells, .slice an B.next.length cn, .slice at_ B.turn.length ct]

/-- Memory holds the board's lists. -/
def Held (n : Nat) (W : World) (an at_ : Option Addr) (B : Brd) : Prop := Rws n W an B.next ∧ Ints n W at_ B.turn

theorem Held.below {n : Nat} {A B : World} {an at_ : Option Addr} {D : Brd} (h : Held n A an at_ D) (hb : Below n A B) : Held n B an at_ D := ⟨h.1.below hb, h.2.below hb⟩
theorem Held.mono {n m : Nat} {A : World} {an at_ : Option Addr} {D : Brd} (h : Held n A an at_ D) (hm : n ≤ m) : Held m A an at_ D := ⟨h.1.mono hm, h.2.mono hm⟩

theorem Held.keep {n : Nat} {A B : World} {an at_ : Option Addr} {D : Brd} (h : Held n A an at_ D) {P : Nat → Prop} (hb : Keep P A B) (hP : ∀ k, k < n → P k) : Held n B an at_ D := ⟨h.1.keep hb hP, h.2.keep hb hP⟩

theorem bcell {W w1 : World} (hb : Below W.heap.size W w1) : (∀ b o, b < W.heap.size → w1.cell? ⟨b, o, none⟩ = W.cell? ⟨b, o, none⟩) ∧ (∀ b o, b < W.heap.size → w1.frozen? ⟨b, o, none⟩ = W.frozen? ⟨b, o, none⟩) :=
  ⟨fun b o h => hb.cell (p := ⟨b, o, none⟩) h, fun b o h => hb.frozen (p := ⟨b, o, none⟩) h⟩

theorem below_alloc {w w1 : World} (h : Below w.heap.size w w1) (o : Obj) : Below w.heap.size w (w1.alloc o) := h.alloc h.size o

theorem cell_alloc_keep {w : World} {p : Addr} {v : Value} (h : w.cell? p = some v) (o : Obj) : (w.alloc o).cell? p = some v :=
  (World.cell?_alloc_lt _ _ _ (World.block_lt_of_cell? w p h)).trans h

theorem below_drewN_ {n : Nat} {w w1 : World} (h : Below n w w1) (k : Nat) : Below n w (w1.drewN k) := below_drewN h k

theorem below_step {w w1 w2 : World} (h : Below w.heap.size w w1) (hb : Below w1.heap.size w1 w2) : Below w.heap.size w w2 := h.trans (hb.mono h.size)

/-- What the call left alone, along the steps of a walk. -/
theorem BLW {n : Nat} {w w1 : World} (h : Below n w w1 := by (repeat (first | exact Below.refl _ _ | assumption | refine below_alloc ?_ _ | refine Below.drew ?_ | refine below_drewN_ ?_ _ | refine below_step ?_ (by assumption)))) : Below n w w1 := h
theorem cell_keep {w w1 : World} {p : Addr} {v : Value} (hb : Below w.heap.size w w1) (h : w.cell? p = some v) : w1.cell? p = some v :=
  (hb.cell (World.block_lt_of_cell? w p h)).trans h

theorem frozen_keep {w w1 : World} {p : Addr} {v : Value} {b : Bool} (hb : Below w.heap.size w w1) (h : w.cell? p = some v) (hf : w.frozen? p = b) : w1.frozen? p = b :=
  (hb.frozen (World.block_lt_of_cell? w p h)).trans hf

theorem Ints.up {N : Nat} {w w1 : World} {a : Option Addr} {l : List Int} (h : Ints N w a l) (hN : N ≤ w.heap.size) (hb : Below w.heap.size w w1) : Ints N w1 a l := h.below (hb.mono hN)
theorem Rws.up {N : Nat} {w w1 : World} {a : Option Addr} {l : List (List Int)} (h : Rws N w a l) (hN : N ≤ w.heap.size) (hb : Below w.heap.size w w1) : Rws N w1 a l := h.below (hb.mono hN)
theorem Held.up {N : Nat} {w w1 : World} {an at_ : Option Addr} {B : Brd} (h : Held N w an at_ B) (hN : N ≤ w.heap.size) (hb : Below w.heap.size w w1) : Held N w1 an at_ B := h.below (hb.mono hN)

theorem ret_int {k : IntKind} {a b : Int} (h : a = b) : Ending.returned (.int k a) = .returned (.int k b) := by rw [h]

end Go.Proofs.Ytepbmgbomdekaaa
