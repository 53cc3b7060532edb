/-
 The data of boards as plain lists, and what it means that memory holds them.
 What a call owns, and what it alters.
 Programs as plain lists, and what it means that memory holds them; isOp of the package prog.
 'l = append(l, x)', l of numbers and the call's own. (For seats without the texts of boards; there the same stands in Queue, Rows2, Wild and LawA.)
 A region that draws its order: calls that lay memory of their own, each with one value whatever the order; behind them a tail that waits for all of them.
-/
import Derived.Below
import Derived.WalkKit
import Derived.WalkSmall
import Derived.WalkSpells
import Derived.Lib.Hide
import Derived.Test.YtbmcngoeinginaaGreatDoorProg
import Derived.Sort.OwnSortedInts
import Derived.RangeFuncBox
import Derived.Deep.QuietTactic
import Derived.BigQuiet
import Derived.StillTailTactics
import Derived.Maps.AppendAt
import Derived.Maps.OwnIn
import Derived.Laws.OwnMore
import Derived.Deep.Quiet
import Derived.StillTail
import Derived.Tactics
import Derived.Tactics2
namespace Go.Proofs.YtbmcngoeinginaaGreatDoor
open Go Go.RowKit
theorem sA {α : Type} (l : List α) (i : Nat) (a : α) : l.toArray.setIfInBounds i a = (l.set i a).toArray := List.setIfInBounds_toArray ..
theorem sB {α : Type} (a b : α) (l : List α) : (a :: l).set 0 b = b :: l := List.set_cons_zero ..
theorem sC {α : Type} (a b : α) (l : List α) (n : Nat) : (a :: l).set (n + 1) b = a :: l.set n b := List.set_cons_succ ..
def Ints (n : Nat) (W : World) (a : Option Addr) (l : List Int) : Prop :=
 l = [] ∨ ∃ b off, a = some ⟨b, off, none⟩ ∧ b < n ∧ ∀ j, j < l.length → W.cell? ⟨b, off + j, none⟩ = some (.int .i64 (l[j]?.getD 0))
theorem Ints.below {n : Nat} {A B : World} {a : Option Addr} {l : List Int} (h : Ints n A a l) (hb : Below n A B) : Ints n B a l := by
 rcases h with h | ⟨b, off, e, hn, hc⟩
 · exact .inl h
 · exact .inr ⟨b, off, e, hn, fun j hj => (hb.cell (p := ⟨b, off + j, none⟩) hn).trans (hc j hj)⟩
theorem Ints.mono {n m : Nat} {A : World} {a : Option Addr} {l : List Int} (h : Ints n A a l) (hm : n ≤ m) : Ints m A a l := by
 rcases h with h | ⟨b, off, e, hn, hc⟩
 · exact .inl h
 · exact .inr ⟨b, off, e, by omega, hc⟩
theorem Ints.at_ {n : Nat} {W : World} {a : Option Addr} {l : List Int} (h : Ints n W a l) {j : Nat} (hj : j < l.length) :
   ∃ b off, a = some ⟨b, off, none⟩ ∧ b < n ∧ W.cell? ⟨b, off + j, none⟩ = some (.int .i64 (l[j]?.getD 0)) := by
 rcases h with rfl | ⟨b, off, e, hn, hc⟩
 · simp at hj
 · exact ⟨b, off, e, hn, hc j hj⟩
def Rws (n : Nat) (W : World) (a : Option Addr) (ls : List (List Int)) : Prop :=
 ls = [] ∨ ∃ b off, a = some ⟨b, off, none⟩ ∧ b < n ∧ ∀ j, j < ls.length → ∃ aj cj, W.cell? ⟨b, off + j, none⟩ = some (.slice aj (ls[j]?.getD []).length cj) ∧ Ints n W aj (ls[j]?.getD [])
theorem Rws.below {n : Nat} {A B : World} {a : Option Addr} {l : List (List Int)} (h : Rws n A a l) (hb : Below n A B) : Rws n B a l := by
 rcases h with h | ⟨b, off, e, hn, hc⟩
 · exact .inl h
 · refine .inr ⟨b, off, e, hn, fun j hj => ?_⟩
   obtain ⟨aj, cj, h1, h2⟩ := hc j hj;exact ⟨aj, cj, (hb.cell (p := ⟨b, off + j, none⟩) hn).trans h1, h2.below hb⟩
theorem Rws.mono {n m : Nat} {A : World} {a : Option Addr} {l : List (List Int)} (h : Rws n A a l) (hm : n ≤ m) : Rws m A a l := by
 rcases h with h | ⟨b, off, e, hn, hc⟩
 · exact .inl h
 · refine .inr ⟨b, off, e, by omega, fun j hj => ?_⟩
   obtain ⟨aj, cj, h1, h2⟩ := hc j hj;exact ⟨aj, cj, h1, h2.mono hm⟩
theorem Rws.at_ {n : Nat} {W : World} {a : Option Addr} {l : List (List Int)} (h : Rws n W a l) {j : Nat} (hj : j < l.length) :
   ∃ b off aj cj, a = some ⟨b, off, none⟩ ∧ b < n ∧ W.cell? ⟨b, off + j, none⟩ = some (.slice aj (l[j]?.getD []).length cj) ∧ Ints n W aj (l[j]?.getD []) := by
 rcases h with rfl | ⟨b, off, e, hn, hc⟩
 · simp at hj
 · obtain ⟨aj, cj, h1, h2⟩ := hc j hj
   exact ⟨b, off, aj, cj, e, hn, h1, h2⟩
def Keep (P : Nat → Prop) (W W' : World) : Prop := W.heap.size ≤ W'.heap.size ∧ ∀ k, P k → W'.heap[k]? = W.heap[k]?
theorem Keep.trans {P : Nat → Prop} {A B C : World} (h : Keep P A B) (k : Keep P B C) : Keep P A C := ⟨Nat.le_trans h.1 k.1, fun i hi => (k.2 i hi).trans (h.2 i hi)⟩
theorem Keep.refl (P : Nat → Prop) (A : World) : Keep P A A := ⟨Nat.le_refl _, fun _ _ => rfl⟩
theorem Keep.cell {P : Nat → Prop} {A B : World} (h : Keep P A B) {p : Addr} (hp : P p.block) : B.cell? p = A.cell? p := World.cell?_of_block (h.2 _ hp)
theorem Keep.mono {P Q : Nat → Prop} {A B : World} (h : Keep P A B) (hq : ∀ k, Q k → P k) : Keep Q A B := ⟨h.1, fun k hk => h.2 k (hq k hk)⟩
theorem Below.keep {A B : World} (h : Below A.heap.size A B) {P : Nat → Prop} (hP : ∀ k, P k → k < A.heap.size) : Keep P A B := ⟨h.size, fun k hk => h.block k (hP k hk)⟩
theorem Ints.keep {n : Nat} {A B : World} {a : Option Addr} {l : List Int} (h : Ints n A a l) {P : Nat → Prop} (hb : Keep P A B) (hP : ∀ k, k < n → P k) : Ints n B a l := by
 rcases h with h | ⟨b, off, e, hn, hc⟩
 · exact .inl h
 · exact .inr ⟨b, off, e, hn, fun j hj => (hb.cell (p := ⟨b, off + j, none⟩) (hP _ hn)).trans (hc j hj)⟩
theorem Rws.keep {n : Nat} {A B : World} {a : Option Addr} {l : List (List Int)} (h : Rws n A a l) {P : Nat → Prop} (hb : Keep P A B) (hP : ∀ k, k < n → P k) : Rws n B a l := by
 rcases h with h | ⟨b, off, e, hn, hc⟩
 · exact .inl h
 · refine .inr ⟨b, off, e, hn, fun j hj => ?_⟩
   obtain ⟨aj, cj, h1, h2⟩ := hc j hj;exact ⟨aj, cj, (hb.cell (p := ⟨b, off + j, none⟩) (hP _ hn)).trans h1, h2.keep hb hP⟩
structure Brd where
 cells : Int
 next : List (List Int)
 turn : List Int
abbrev Brd.val (B : Brd) (an : Option Addr) (cn : Nat) (at_ : Option Addr) (ct : Nat) : Value :=
 .agg #[.int .i64 B.cells, .slice an B.next.length cn, .slice at_ B.turn.length ct]
def Held (n : Nat) (W : World) (an at_ : Option Addr) (B : Brd) : Prop := Rws n W an B.next ∧ Ints n W at_ B.turn
theorem Held.below {n : Nat} {A B : World} {an at_ : Option Addr} {D : Brd} (h : Held n A an at_ D) (hb : Below n A B) : Held n B an at_ D := ⟨h.1.below hb, h.2.below hb⟩
theorem Held.mono {n m : Nat} {A : World} {an at_ : Option Addr} {D : Brd} (h : Held n A an at_ D) (hm : n ≤ m) : Held m A an at_ D := ⟨h.1.mono hm, h.2.mono hm⟩
theorem Held.keep {n : Nat} {A B : World} {an at_ : Option Addr} {D : Brd} (h : Held n A an at_ D) {P : Nat → Prop} (hb : Keep P A B) (hP : ∀ k, k < n → P k) : Held n B an at_ D := ⟨h.1.keep hb hP, h.2.keep hb hP⟩
theorem below_alloc {w w1 : World} (h : Below w.heap.size w w1) (o : Obj) : Below w.heap.size w (w1.alloc o) := h.alloc h.size o
theorem cell_alloc_keep {w : World} {p : Addr} {v : Value} (h : w.cell? p = some v) (o : Obj) : (w.alloc o).cell? p = some v :=
 (World.cell?_alloc_lt _ _ _ (World.block_lt_of_cell? w p h)).trans h
theorem below_drewN_ {n : Nat} {w w1 : World} (h : Below n w w1) (k : Nat) : Below n w (w1.drewN k) := below_drewN h k
theorem below_step {w w1 w2 : World} (h : Below w.heap.size w w1) (hb : Below w1.heap.size w1 w2) : Below w.heap.size w w2 := h.trans (hb.mono h.size)
theorem BLW {n : Nat} {w w1 : World} (h : Below n w w1 := by (repeat (first | exact Below.refl _ _ | assumption | refine below_alloc ?_ _ | refine Below.drew ?_ | refine below_drewN_ ?_ _ | refine below_step ?_ (by assumption)))) : Below n w w1 := h
theorem cell_keep {w w1 : World} {p : Addr} {v : Value} (hb : Below w.heap.size w w1) (h : w.cell? p = some v) : w1.cell? p = some v :=
 (hb.cell (World.block_lt_of_cell? w p h)).trans h
theorem Ints.up {N : Nat} {w w1 : World} {a : Option Addr} {l : List Int} (h : Ints N w a l) (hN : N ≤ w.heap.size) (hb : Below w.heap.size w w1) : Ints N w1 a l := h.below (hb.mono hN)
theorem Rws.up {N : Nat} {w w1 : World} {a : Option Addr} {l : List (List Int)} (h : Rws N w a l) (hN : N ≤ w.heap.size) (hb : Below w.heap.size w w1) : Rws N w1 a l := h.below (hb.mono hN)
theorem Held.up {N : Nat} {w w1 : World} {an at_ : Option Addr} {B : Brd} (h : Held N w an at_ B) (hN : N ≤ w.heap.size) (hb : Below w.heap.size w w1) : Held N w1 an at_ B := h.below (hb.mono hN)
end Go.Proofs.YtbmcngoeinginaaGreatDoor
namespace Go.Proofs.YtbmcngoeinginaaGreatDoor
open Go Go.RowKit Go.Sort Go.Lib
def OwnInts (n : Nat) (W : World) (v : Value) (l : List Int) : Prop := W.ownsRow n 3 1 v l.length (l.map (Value.int .i64))
theorem cell_new_at (W : World) (cs : Array Value) (t : TypeId) (b j : Nat) (v : Value) (hb : b = W.heap.size) (h : cs[j]? = some v) : (W.alloc (.cells cs t)).cell? ⟨b, j, none⟩ = some v := by
 subst hb
 unfold World.cell?
 rw [World.alloc_heap_new]
 simpa using h
theorem cell_drew {w : World} {p : Addr} {v : Value} (h : w.cell? p = some v) : w.drew.cell? p = some v := h
structure Alters (S : Nat → Prop) (W W' : World) : Prop where
 os : W'.os = W.os
 tape : W'.tape = W.tape
 output : W'.output = W.output
 size : W.heap.size ≤ W'.heap.size
 block : ∀ k, k < W.heap.size → ¬ S k → W'.heap[k]? = W.heap[k]?
theorem Alters.below {S : Nat → Prop} {W W' : World} (h : Alters S W W') {n : Nat} (hn : n ≤ W.heap.size) (hS : ∀ k, S k → n ≤ k) : Below n W W' :=
 ⟨h.os, h.tape, h.output, h.size, fun k hk => h.block k (by omega) (fun hs => by have := hS k hs; omega)⟩
theorem Alters.keep {S : Nat → Prop} {W W' : World} (h : Alters S W W') {P : Nat → Prop} (hP : ∀ k, P k → k < W.heap.size ∧ ¬ S k) : Keep P W W' := ⟨h.size, fun k hk => h.block k (hP k hk).1 (hP k hk).2⟩
theorem Alters.of_grown {W W' : World} {row : Option Nat} (h : W.grownBy W' row) : Alters (fun k => some k = row) W W' := ⟨h.os, h.tape, h.output, h.size, fun k hk hs => h.block k hk hs⟩
theorem Alters.refl (S : Nat → Prop) (W : World) : Alters S W W := ⟨rfl, rfl, rfl, Nat.le_refl _, fun _ _ _ => rfl⟩
theorem Alters.mono {S T : Nat → Prop} {W W' : World} (h : Alters S W W') (hST : ∀ k, k < W.heap.size → S k → T k) : Alters T W W' := ⟨h.os, h.tape, h.output, h.size, fun k hk ht => h.block k hk (fun hs => ht (hST k hk hs))⟩
theorem Alters.trans {S : Nat → Prop} {A B C : World} (h : Alters S A B) (k : Alters S B C) : Alters S A C :=
 ⟨k.os.trans h.os, k.tape.trans h.tape, k.output.trans h.output, Nat.le_trans h.size k.size, fun i hi hs => (k.block i (Nat.lt_of_lt_of_le hi h.size) hs).trans (h.block i hi hs)⟩
theorem Alters.of_below {S : Nat → Prop} {W W' : World} (h : Below W.heap.size W W') : Alters S W W' := ⟨h.os, h.tape, h.output, h.size, fun k hk _ => h.block k hk⟩
theorem OwnInts.block {n : Nat} {W : World} {v : Value} {l : List Int} (h : W.ownsRow n 3 1 v l.length (l.map (Value.int .i64))) {k : Nat} (hk : some k = v.ownBlock) : n ≤ k ∧ k < W.heap.size := World.ownsRow.lt h k hk.symm
theorem OwnInts.form {n : Nat} {W : World} {v : Value} {l : List Int} (h : OwnInts n W v l) : (v = .slice none 0 0 ∧ l = []) ∨ ∃ g cap, v = .slice (some ⟨g, 0, none⟩) l.length cap ∧ n ≤ g ∧ g < W.heap.size := by
 rcases h.2 with ⟨h1, h2⟩ | ⟨g, cap, cur, hv, hg, hc, _⟩
 · exact .inl ⟨h1, List.length_eq_zero_iff.1 h2⟩
 · exact .inr ⟨g, cap, hv, hg, (Array.getElem?_eq_some_iff.1 hc).1⟩
theorem OwnInts.mono {n m : Nat} {W : World} {v : Value} {l : List Int} (h : OwnInts n W v l) (hm : m ≤ n) : OwnInts m W v l := by
 refine ⟨h.1, ?_⟩
 rcases h.2 with h2 | ⟨g, cap, cur, hv, hg, r⟩
 · exact .inl h2
 · exact .inr ⟨g, cap, cur, hv, Nat.le_trans hm hg, r⟩
theorem OwnInts.alters {n : Nat} {W W' : World} {v : Value} {l : List Int} (h : OwnInts n W v l) {S : Nat → Prop} (ha : Alters S W W') (hS : ∀ k, S k → ¬ some k = v.ownBlock) : OwnInts n W' v l := by
 refine ⟨h.1, ?_⟩
 rcases h.2 with h2 | ⟨g, cap, cur, rfl, hg, hc, r⟩
 · exact .inl h2
 · exact .inr ⟨g, cap, cur, rfl, hg, (ha.block g (Array.getElem?_eq_some_iff.1 hc).1 (fun hs => hS g hs rfl)).trans hc, r⟩
theorem OwnInts.ints {n : Nat} {W : World} {v : Value} {l : List Int} (h : OwnInts n W v l) : ∃ a cap, v = .slice a l.length cap ∧ Ints W.heap.size W a l := by
 rcases h.form with ⟨rfl, rfl⟩ | ⟨g, cap, rfl, hg, hlt⟩
 · exact ⟨none, 0, rfl, .inl rfl⟩
 · refine ⟨_, cap, rfl, .inr ⟨g, 0, rfl, hlt, fun j hj => ?_⟩⟩
   rw [Nat.zero_add, World.ownsRow.cellAt h j (by omega)]
   simp [hj]
theorem alters_cell (W : World) (B j : Nat) (v : Value) : Alters (fun k => k = B) W (W.setCell ⟨B, j, none⟩ v) := ⟨rfl, rfl, rfl, by simp [World.setCell], fun k _ hk => Below.heap_setCell _ _ _ _ hk⟩
theorem results_cell1 {fn : Func} {p : Tmp} {ty : TypeId} (h : fn.results = #[.cell p ty]) (tmps : Array Value) (P : Program) (w : World) :
   (results fn tmps).run P w = ((asAddr (tmps.getD p undef)).run P w).andThen fun a w1 => ((loadVar ty a).run P w1).andThen fun v w2 => .ok v w2 := by
 simp only [results, h]
 simp [Sem.run_bind, Result.andThen]
 split
 · split <;> simp_all
 · rfl
end Go.Proofs.YtbmcngoeinginaaGreatDoor
namespace Go.Proofs.YtbmcngoeinginaaGreatDoor
open Go Go.RowKit
def Prg (n : Nat) (W : World) (a : Option Addr) (l : List (Int × Int)) : Prop :=
 l = [] ∨ ∃ b off, a = some ⟨b, off, none⟩ ∧ b < n ∧ ∀ j, j < l.length → W.cell? ⟨b, off + j * 2, none⟩ = some (.int .i64 (l[j]?.getD (0, 0)).1) ∧ W.cell? ⟨b, off + j * 2 + 1, none⟩ = some (.int .i64 (l[j]?.getD (0, 0)).2)
theorem Prg.below {n : Nat} {A B : World} {a : Option Addr} {l : List (Int × Int)} (h : Prg n A a l) (hb : Below n A B) : Prg n B a l := by
 rcases h with h | ⟨b, off, e, hn, hc⟩
 · exact .inl h
 · exact .inr ⟨b, off, e, hn, fun j hj => ⟨(hb.cell (p := ⟨b, off + j * 2, none⟩) hn).trans (hc j hj).1, (hb.cell (p := ⟨b, off + j * 2 + 1, none⟩) hn).trans (hc j hj).2⟩⟩
theorem Prg.mono {n m : Nat} {A : World} {a : Option Addr} {l : List (Int × Int)} (h : Prg n A a l) (hm : n ≤ m) : Prg m A a l := by
 rcases h with h | ⟨b, off, e, hn, hc⟩
 · exact .inl h
 · exact .inr ⟨b, off, e, by omega, hc⟩
theorem Prg.up {N : Nat} {w w1 : World} {a : Option Addr} {l : List (Int × Int)} (h : Prg N w a l) (hN : N ≤ w.heap.size) (hb : Below w.heap.size w w1) : Prg N w1 a l := h.below (hb.mono hN)
theorem Prg.at_ {n : Nat} {W : World} {a : Option Addr} {l : List (Int × Int)} (h : Prg n W a l) {j : Nat} (hj : j < l.length) :
   ∃ b off, a = some ⟨b, off, none⟩ ∧ b < n ∧ W.cell? ⟨b, off + j * 2, none⟩ = some (.int .i64 (l[j]?.getD (0, 0)).1) ∧ W.cell? ⟨b, off + j * 2 + 1, none⟩ = some (.int .i64 (l[j]?.getD (0, 0)).2) := by
 rcases h with rfl | ⟨b, off, e, hn, hc⟩
 · simp at hj
 · exact ⟨b, off, e, hn, (hc j hj).1, (hc j hj).2⟩
def wordL : List (List UInt8) := [[], [103, 111], [115, 108, 105, 100, 101], [101, 109, 112, 116, 121], [101, 110, 101, 109, 121], [102, 114, 105, 101, 110, 100], [116, 97, 107, 101], [112, 117, 115, 104], [98, 101, 99, 111, 109, 101], [110, 101, 101, 100], [108, 111, 115, 101]]
def namesL : List Int := [0, 1, 1, 0, 0, 0, 0, 1, 2, 3, 3]
def wordS (j : Nat) : ByteArray := ⟨(wordL[j]?.getD []).toArray⟩
def nameS (j : Nat) : Int := namesL[j]?.getD 0
def SignsIn (W : World) : Prop := ∀ j, j < 11 → W.cell? ⟨0, j * 2, none⟩ = some (.string (wordS j)) ∧ W.cell? ⟨0, j * 2 + 1, none⟩ = some (.int .i64 (nameS j))
theorem SignsIn.up {w w' : World} (h : SignsIn w) (hb : Below w.heap.size w w') : SignsIn w' := fun j hj => ⟨cell_keep hb (h j hj).1, cell_keep hb (h j hj).2⟩
def opB (op : Int) : Bool := decide (0 < op) && decide (op < 11)
theorem opB_nat {op : Int} (h : opB op = true) : ∃ j : Nat, op = j ∧ 0 < j ∧ j < 11 := by
 unfold opB at h
 simp only [Bool.and_eq_true, decide_eq_true_eq] at h
 exact ⟨op.toNat, by omega, by omega, by omega⟩
theorem isOp_any (op : Int) (w : World) : Calls Tryz.prog 55 #[.int .i64 op] w fun e w' => e = .returned (.bool (opB op)) ∧ w' = w := by
 unfold opB
 by_cases h : 0 < op
 · have t : decide (0 < op) = true := by simpa using h
   go_enter Tryz.func55, Tryz.ntmps55;go_wp2
   go_ret
   exact ⟨by simp [h], rfl⟩
 · have t : decide (0 < op) = false := by simpa using h
   rw [t];go_enter Tryz.func55, Tryz.ntmps55;go_wp2
   go_ret
   exact ⟨by simp, rfl⟩
end Go.Proofs.YtbmcngoeinginaaGreatDoor
namespace Go.Proofs.YtbmcngoeinginaaGreatDoor
open Go Go.RowKit
theorem own_empty (W : World) : OwnInts W.heap.size (W.alloc (.cells #[] 3)) (.slice (some ⟨W.heap.size, 0, none⟩) 0 0) [] := by
 refine ⟨rfl, .inr ⟨W.heap.size, 0, #[], rfl, Nat.le_refl _, World.alloc_heap_new _ _, Nat.le_refl _, by omega, rfl, rfl⟩⟩
theorem OwnInts.cellAt {n : Nat} {W : World} {g k cap : Nat} {l : List Int} (h : OwnInts n W (.slice (some ⟨g, 0, none⟩) k cap) l) {j : Nat} (hj : j < l.length) :
   W.cell? ⟨g, j, none⟩ = some (.int .i64 (l[j]?.getD 0)) ∧ W.frozen? ⟨g, j, none⟩ = false := by
 obtain rfl : k = l.length := by
   rcases h.2 with ⟨h0, _⟩ | ⟨_, _, _, hv, _⟩
   · cases h0
   · cases hv; rfl
 refine ⟨?_, World.ownsRow.frozenAt h j⟩
 rw [World.ownsRow.cellAt h j (by omega)]
 simp [hj]
theorem OwnInts.set {n : Nat} {W : World} {g k cap : Nat} {l : List Int} (h : OwnInts n W (.slice (some ⟨g, 0, none⟩) k cap) l) (j : Nat) (x : Int) : OwnInts n (W.setCell ⟨g, j, none⟩ (.int .i64 x)) (.slice (some ⟨g, 0, none⟩) k cap) (l.set j x) := by
 obtain rfl : k = l.length := by
   rcases h.2 with ⟨h0, _⟩ | ⟨_, _, _, hv, _⟩
   · cases h0
   · cases hv; rfl
 rcases h.2 with ⟨h0, _⟩ | ⟨g', cap', cur, hv, hg, hc, hn, hm, hs, ht⟩
 · cases h0
 cases hv
 refine ⟨by simp, .inr ⟨g, cap, cur.setIfInBounds j (.int .i64 x), by simp, hg, ?_, by simpa using hn, hm, by simpa using hs, ?_⟩⟩
 · simp [World.setCell, Array.getElem?_modify, hc]
 · rw [Nat.mul_one] at ht ⊢
   rw [List.length_set, Array.toList_setIfInBounds, List.take_set, ht, List.map_set]
theorem push_below {h : Nat} {w4 W WA W6 : World} {v : Value} {l : List Int} (hb : Below h w4 W) (hA : Below W.heap.size W WA) (hs : h ≤ W.heap.size) (ho : OwnInts h W v l) (hg : WA.grownBy W6 v.ownBlock) : Below h w4 W6 :=
 (hb.trans (hA.mono hs)).trans ((Alters.of_grown hg).below (Nat.le_trans hs hA.size) (fun k hk => (World.ownsRow.lt ho k hk.symm).1))
theorem step_append_at {w : World} {ops : Array Oper} {o : Oper} {a : Act} {K : Act → World → Prop} {Q : Exit → Act → World → Prop} {E : Prop} (hgd : o.guard = none) (s y : Operand)
   (ho : o.op = .call { callee := .builtin .append, args := #[s, y], argTypes := #[32, 32] }) (n : Nat) (v : Value) (l : List Int) (hs : a.eval s = v) (h : OwnInts n w v l) (hl : l.length < 2000) (hn : n ≤ w.heap.size)
   (ad : Addr) (x : Int) (hy : a.eval y = .slice (some ad) 1 1) (hx : w.cell? ad = some (.int .i64 x))
   (hK : ∀ g cap w', OwnInts n w' (.slice (some ⟨g, 0, none⟩) (l.length + 1) cap) (l ++ [x]) → w.grownBy w' v.ownBlock → (v.ownBlock = some g ∨ g = w.heap.size) → K (a.put o.dst (.slice (some ⟨g, 0, none⟩) (l.length + 1) cap)) w') :
   if Region.wanted o (yielded ops a.tmps) = true then Oper.wp Tryz.prog o a w K Q else E := by
 have hw : Region.wanted o (yielded ops a.tmps) = true := by simp [Region.wanted, hgd]
 rw [if_pos hw]
 obtain ⟨i0, hi, hz0, hz1, hz2⟩ := info_parts (show (Tryz.prog.info? 3).map (fun i => (i.zero, i.size, i.bytes)) = some (some (.int .i64 0), 1, 8) by kernel_rfl)
 obtain ⟨v', w', hr, h2, h3, _, h5⟩ := run_append_own_at (P := Tryz.prog) w n 32 o.type 3 i0 (.int .i64 0) 1 8 Tryz.underlying32 hi hz0 hz1 hz2 rfl (by decide) v l.length (l.map (Value.int .i64)) h ad 1 1 [.int .i64 x] rfl
   (by intro j u hj
       cases j with
       | zero => simp at hj; subst hj; simpa [Addr.add] using hx
       | succ j => simp at hj) (by simp [Value.oneCell']) (by unfold maxLen; omega) (by omega) hn
 obtain ⟨g, cap, rfl⟩ := ownsRow_succ h2
 unfold Oper.wp
 simp [execOp, ho, resolve, invoke, builtin, hs, hy, hr, Result.andThen]
 refine hK g cap w' ⟨by simp, ?_⟩ h3 ?_
 · rcases h2.2 with ⟨h0, _⟩ | ⟨g', cap', cur, hv, r⟩
   · cases h0
   · cases hv
     exact .inr ⟨g, cap, cur, by simp, by simpa using r⟩
 · rcases h5 with h | h
   · left; rw [← h]; rfl
   · right; simpa [Value.ownBlock] using h
theorem wpList_push {w : World} {ops : Array Oper} {rest : List Oper} {o : Oper} {a : Act} {Q : Exit → Act → World → Prop} (hgd : o.guard = none) (s y : Operand)
   (ho : o.op = .call { callee := .builtin .append, args := #[s, y], argTypes := #[32, 32] }) (n : Nat) (v : Value) (l : List Int) (hs : a.eval s = v) (h : OwnInts n w v l) (hl : l.length < 2000) (hn : n ≤ w.heap.size)
   (ad : Addr) (x : Int) (hy : a.eval y = .slice (some ad) 1 1) (hx : w.cell? ad = some (.int .i64 x))
   (hK : ∀ g cap w', OwnInts n w' (.slice (some ⟨g, 0, none⟩) (l.length + 1) cap) (l ++ [x]) → w.grownBy w' v.ownBlock → (v.ownBlock = some g ∨ g = w.heap.size) → wpList Tryz.prog ops Q rest (a.put o.dst (.slice (some ⟨g, 0, none⟩) (l.length + 1) cap)) w') :
   wpList Tryz.prog ops Q (o :: rest) a w :=
 wpList_plain hgd fun K hK' => by
   have h2 := step_append_at (w := w) (ops := ops) (Q := Q) (K := K) (E := True) hgd s y ho n v l hs h hl hn ad x hy hx (fun g cap w' h1 h2 h3 => hK' _ _ (hK g cap w' h1 h2 h3));rw [if_pos (by simp [Region.wanted, hgd])] at h2;exact h2
end Go.Proofs.YtbmcngoeinginaaGreatDoor
namespace Go.Proofs.YtbmcngoeinginaaGreatDoor
open Go Go.RowKit
section
variable {P : Program} {ops : Array Oper} {md : Region.Mode} {C : World → Prop}
def HeadQ (P : Program) (md : Region.Mode) (ops : Array Oper) (C : World → Prop) (n : Nat) (L : Array Bool → Act → Prop) : Nat → Array Bool → Act → Prop
 | 0, s, a => L s a
 | f + 1, s, a => Region.ready md ops s ≠ [] ∧ ∀ i ∈ Region.ready md ops s, i < n ∧ qOp P ops C i (HeadQ P md ops C n L f (s.setIfInBounds i true)) a
theorem any_of_headQ {n g : Nat} {L : Array Bool → Act → Prop} {Q' : Exit → Act → World → Prop} (hL : ∀ s a w, C w → L s a → wpAny P md ops Q' g s a w) (f : Nat) :
   ∀ (s : Array Bool) (a : Act) (w : World), C w → HeadQ P md ops C n L f s a → wpAny P md ops Q' (f + g) s a w := by
 induction f with
 | zero => intro s a w hw h; rw [Nat.zero_add]; exact hL _ _ _ hw h
 | succ f ih =>
   intro s a w hw h;rw [Nat.add_right_comm];exact ⟨fun h0 => absurd h0 h.1, fun i hi => wpOp_of_qOp hw (fun a' w' hw' h' => ih _ a' w' hw' h') (h.2 i hi).2⟩
end
section
variable {P : Program} {ops : Array Oper} {C : World → Prop}
theorem wpQuiet_val {Q : Act → Prop} {a : Act} {o : Oper} {rest : List Oper} {v : Value} (hw : Region.wanted o (yielded ops a.tmps) = true) (hr : ∀ W, C W → o.quietAt P a C W v) (hK : wpQuiet P ops C Q rest (a.put o.dst v)) : wpQuiet P ops C Q (o :: rest) a := by
 refine wpQuiet_step (fun K hk => ?_)
 rw [if_pos hw]
 exact ⟨v, hr, hk _ hK⟩
end
structure Box5 (w : World) (B : Nat) (v0 v1 v2 v3 v4 : Value) (W : World) : Prop where
 b : Below w.heap.size w W
 c0 : W.cell? ⟨B, 0, none⟩ = some v0
 c1 : W.cell? ⟨B, 1, none⟩ = some v1
 c2 : W.cell? ⟨B, 2, none⟩ = some v2
 c3 : W.cell? ⟨B, 3, none⟩ = some v3
 c4 : W.cell? ⟨B, 4, none⟩ = some v4
theorem Box5.up {w W W' : World} {B : Nat} {v0 v1 v2 v3 v4 : Value} (h : Box5 w B v0 v1 v2 v3 v4 W) (hb : Below W.heap.size W W') : Box5 w B v0 v1 v2 v3 v4 W' :=
 ⟨below_step h.b hb, cell_keep hb h.c0, cell_keep hb h.c1, cell_keep hb h.c2, cell_keep hb h.c3, cell_keep hb h.c4⟩
theorem Box5.drew {w W : World} {B : Nat} {v0 v1 v2 v3 v4 : Value} (h : Box5 w B v0 v1 v2 v3 v4 W) : Box5 w B v0 v1 v2 v3 v4 W.drew := h.up (Below.refl _ _).drew
structure InB (w W : World) : Prop where
 b : Below w.heap.size w W
theorem InB.up {w W W' : World} (h : InB w W) (hb : Below W.heap.size W W') : InB w W' := ⟨below_step h.b hb⟩
end Go.Proofs.YtbmcngoeinginaaGreatDoor
