/-
  Of the reference: at, Lib.
-/
import Derived.Test.YtidgdfjnjgonoaaGreatDoorQStep
import Derived.Test.YtidgdfjnjgonoaaGreatDoorPStp
import Derived.Deep.DeepCutAuto
namespace Go.Proofs.YtidgdfjnjgonoaaGreatDoor
open Go Go.RowKit

/-- The slice whose first place is a, of as many places as l is long, holds the bytes l, in a block below n. -/
def U8s (n : Nat) (W : World) (a : Option Addr) (l : List Nat) : Prop :=
  (∀ j : Nat, (l[j]? : Option Nat).getD 0 ≤ 255) ∧ (l = [] ∨ ∃ b off, a = some ⟨b, off, none⟩ ∧ b < n ∧ ∀ j, j < l.length → W.cell? ⟨b, off + j, none⟩ = some (.int .u8 ((l[j]?.getD 0 : Nat) : Int)))
theorem U8s.below {n : Nat} {A B : World} {a : Option Addr} {l : List Nat} (h : U8s n A a l) (hb : Below n A B) : U8s n B a l := by
  refine ⟨h.1, ?_⟩
  rcases h.2 with h | ⟨b, off, e, hn, hc⟩
  · exact .inl h
  · exact .inr ⟨b, off, e, hn, fun j hj => (hb.cell (p := ⟨b, off + j, none⟩) hn).trans (hc j hj)⟩
theorem U8s.up {N : Nat} {w w1 : World} {a : Option Addr} {l : List Nat} (h : U8s N w a l) (hN : N ≤ w.heap.size) (hb : Below w.heap.size w w1) : U8s N w1 a l := h.below (hb.mono hN)
theorem U8s.at_ {n : Nat} {W : World} {a : Option Addr} {l : List Nat} (h : U8s n W a l) {j : Nat} (hj : j < l.length) :
    ∃ b off, a = some ⟨b, off, none⟩ ∧ b < n ∧ W.cell? ⟨b, off + j, none⟩ = some (.int .u8 ((l[j]?.getD 0 : Nat) : Int)) := by
  rcases h.2 with rfl | ⟨b, off, e, hn, hc⟩
  · simp at hj
  · exact ⟨b, off, e, hn, hc j hj⟩

set_option maxRecDepth 100000 in
theorem at_any (l : List Nat) (a : Option Addr) (c N i : Nat) (w : World) (_ : i ≤ 100) (hI : U8s N w a l) :
    Calls Tryz.prog 28 #[.slice a l.length c, .int .i64 i] w fun e w' => e = .returned (.int .i64 ((l[i]?.getD 0 : Nat) : Int)) ∧ w = w' := by
  by_cases h : i < l.length
  · obtain ⟨b, off, hab, hbN, hc⟩ := hI.at_ h
    have hb := hI.1 i
    subst hab
    generalize l[i]?.getD 0 = x at *
    clear hI
    go_enter Tryz.func28, Tryz.ntmps28
    go_wp2
    go_ret
    exact ⟨rfl, rfl⟩
  · have hx : l[i]?.getD 0 = 0 := by simp [show l.length ≤ i by omega]
    rw [hx]
    have HX := Lib.hid hx
    have t1 : decide (i < l.length) = false := by simpa using h
    clear hx hI h
    go_enter Tryz.func28, Tryz.ntmps28
    go_wp2
    go_ret
    exact ⟨rfl, rfl⟩

def libL (D E B K R : Int) : List (List (Int × Int)) :=
  [[(1, D), (3, 0)],
    [(1, D), (4, 0), (6, 0)],
    [(2, D)],
    [(2, D), (4, 0), (6, 0)],
    [(1, D), (4, 0), (6, 0), (1, D)],
    [(1, D), (1, E)],
    [(1, D), (7, D)],
    [(1, D), (3, 0), (8, K)],
    [(9, R), (1, D), (1, D), (10, R)],
    [(1, D), (5, 0), (1, D), (3, 0)],
    [(10, R), (1, D)],
    [(1, D), (4, 0), (6, 0), (1, B)],
    [(1, D), (4, 0), (6, 0), (1, E), (4, 0), (6, 0)],
    [(2, D), (5, 0), (1, D)],
    [(1, D), (4, 0), (6, 0), (8, K)],
    [(1, D), (7, D), (1, E)]]
def libS (l : List Nat) : List (Int × Int) := (libL ((l[1]?.getD 0 : Nat) % 8) ((l[2]?.getD 0 : Nat) % 8) (((l[1]?.getD 0 : Nat) + 4) % 8) ((l[3]?.getD 0 : Nat) % 6) ((l[4]?.getD 0 : Nat) % 4))[l[0]?.getD 0 % 16]?.getD []
/-- Twelve steps, each in a block of its own. -/
structure Tw (W : World) (b : Nat) (D E B K R : Int) : Prop where
  size : b + 12 ≤ W.heap.size
  c0 : W.cell? ⟨b + 0, 0, none⟩ = some (.int .i64 1) ∧ W.cell? ⟨b + 0, 1, none⟩ = some (.int .i64 D)
  c1 : W.cell? ⟨b + 1, 0, none⟩ = some (.int .i64 1) ∧ W.cell? ⟨b + 1, 1, none⟩ = some (.int .i64 E)
  c2 : W.cell? ⟨b + 2, 0, none⟩ = some (.int .i64 1) ∧ W.cell? ⟨b + 2, 1, none⟩ = some (.int .i64 B)
  c3 : W.cell? ⟨b + 3, 0, none⟩ = some (.int .i64 2) ∧ W.cell? ⟨b + 3, 1, none⟩ = some (.int .i64 D)
  c4 : W.cell? ⟨b + 4, 0, none⟩ = some (.int .i64 7) ∧ W.cell? ⟨b + 4, 1, none⟩ = some (.int .i64 D)
  c5 : W.cell? ⟨b + 5, 0, none⟩ = some (.int .i64 3) ∧ W.cell? ⟨b + 5, 1, none⟩ = some (.int .i64 0)
  c6 : W.cell? ⟨b + 6, 0, none⟩ = some (.int .i64 4) ∧ W.cell? ⟨b + 6, 1, none⟩ = some (.int .i64 0)
  c7 : W.cell? ⟨b + 7, 0, none⟩ = some (.int .i64 5) ∧ W.cell? ⟨b + 7, 1, none⟩ = some (.int .i64 0)
  c8 : W.cell? ⟨b + 8, 0, none⟩ = some (.int .i64 6) ∧ W.cell? ⟨b + 8, 1, none⟩ = some (.int .i64 0)
  c9 : W.cell? ⟨b + 9, 0, none⟩ = some (.int .i64 8) ∧ W.cell? ⟨b + 9, 1, none⟩ = some (.int .i64 K)
  c10 : W.cell? ⟨b + 10, 0, none⟩ = some (.int .i64 9) ∧ W.cell? ⟨b + 10, 1, none⟩ = some (.int .i64 R)
  c11 : W.cell? ⟨b + 11, 0, none⟩ = some (.int .i64 10) ∧ W.cell? ⟨b + 11, 1, none⟩ = some (.int .i64 R)
theorem two_cells (W : World) (x y : Int) : (W.alloc (.cells #[.int .i64 x, .int .i64 y] 41)).cell? ⟨W.heap.size, 0, none⟩ = some (.int .i64 x) ∧ (W.alloc (.cells #[.int .i64 x, .int .i64 y] 41)).cell? ⟨W.heap.size, 1, none⟩ = some (.int .i64 y) :=
  ⟨cell_new_at _ _ _ _ _ _ rfl rfl, cell_new_at _ _ _ _ _ _ rfl rfl⟩
theorem two_keep {W : World} {b : Nat} {x y : Value} (h : W.cell? ⟨b, 0, none⟩ = some x ∧ W.cell? ⟨b, 1, none⟩ = some y) (o : Obj) : (W.alloc o).cell? ⟨b, 0, none⟩ = some x ∧ (W.alloc o).cell? ⟨b, 1, none⟩ = some y := ⟨cell_alloc_keep h.1 o, cell_alloc_keep h.2 o⟩
theorem tw_made (w : World) (D E B K R : Int) : Tw ((((((((((((w.alloc (.cells #[.int .i64 1, .int .i64 D] 41)).alloc (.cells #[.int .i64 1, .int .i64 E] 41)).alloc (.cells #[.int .i64 1, .int .i64 B] 41)).alloc (.cells #[.int .i64 2, .int .i64 D] 41)).alloc (.cells #[.int .i64 7, .int .i64 D] 41)).alloc (.cells #[.int .i64 3, .int .i64 0] 41)).alloc (.cells #[.int .i64 4, .int .i64 0] 41)).alloc (.cells #[.int .i64 5, .int .i64 0] 41)).alloc (.cells #[.int .i64 6, .int .i64 0] 41)).alloc (.cells #[.int .i64 8, .int .i64 K] 41)).alloc (.cells #[.int .i64 9, .int .i64 R] 41)).alloc (.cells #[.int .i64 10, .int .i64 R] 41)) w.heap.size D E B K R := by
  have s0 : w.heap.size = w.heap.size + 0 := by rfl
  obtain ⟨w0, e0⟩ : ∃ w0, w0 = w.alloc (.cells #[.int .i64 1, .int .i64 D] 41) := ⟨_, rfl⟩
  have c0 := two_cells w 1 D
  rw [← e0, s0] at c0
  rw [← e0]
  have s1 : w0.heap.size = w.heap.size + 1 := by rw [e0, World.size_alloc, s0]
  obtain ⟨w1, e1⟩ : ∃ w1, w1 = w0.alloc (.cells #[.int .i64 1, .int .i64 E] 41) := ⟨_, rfl⟩
  have c1 := two_cells w0 1 E
  rw [← e1, s1] at c1
  replace c0 := two_keep c0 (.cells #[.int .i64 1, .int .i64 E] 41)
  rw [← e1] at c0
  rw [← e1]
  have s2 : w1.heap.size = w.heap.size + 2 := by rw [e1, World.size_alloc, s1]
  obtain ⟨w2, e2⟩ : ∃ w2, w2 = w1.alloc (.cells #[.int .i64 1, .int .i64 B] 41) := ⟨_, rfl⟩
  have c2 := two_cells w1 1 B
  rw [← e2, s2] at c2
  replace c0 := two_keep c0 (.cells #[.int .i64 1, .int .i64 B] 41)
  rw [← e2] at c0
  replace c1 := two_keep c1 (.cells #[.int .i64 1, .int .i64 B] 41)
  rw [← e2] at c1
  rw [← e2]
  have s3 : w2.heap.size = w.heap.size + 3 := by rw [e2, World.size_alloc, s2]
  obtain ⟨w3, e3⟩ : ∃ w3, w3 = w2.alloc (.cells #[.int .i64 2, .int .i64 D] 41) := ⟨_, rfl⟩
  have c3 := two_cells w2 2 D
  rw [← e3, s3] at c3
  replace c0 := two_keep c0 (.cells #[.int .i64 2, .int .i64 D] 41)
  rw [← e3] at c0
  replace c1 := two_keep c1 (.cells #[.int .i64 2, .int .i64 D] 41)
  rw [← e3] at c1
  replace c2 := two_keep c2 (.cells #[.int .i64 2, .int .i64 D] 41)
  rw [← e3] at c2
  rw [← e3]
  have s4 : w3.heap.size = w.heap.size + 4 := by rw [e3, World.size_alloc, s3]
  obtain ⟨w4, e4⟩ : ∃ w4, w4 = w3.alloc (.cells #[.int .i64 7, .int .i64 D] 41) := ⟨_, rfl⟩
  have c4 := two_cells w3 7 D
  rw [← e4, s4] at c4
  replace c0 := two_keep c0 (.cells #[.int .i64 7, .int .i64 D] 41)
  rw [← e4] at c0
  replace c1 := two_keep c1 (.cells #[.int .i64 7, .int .i64 D] 41)
  rw [← e4] at c1
  replace c2 := two_keep c2 (.cells #[.int .i64 7, .int .i64 D] 41)
  rw [← e4] at c2
  replace c3 := two_keep c3 (.cells #[.int .i64 7, .int .i64 D] 41)
  rw [← e4] at c3
  rw [← e4]
  have s5 : w4.heap.size = w.heap.size + 5 := by rw [e4, World.size_alloc, s4]
  obtain ⟨w5, e5⟩ : ∃ w5, w5 = w4.alloc (.cells #[.int .i64 3, .int .i64 0] 41) := ⟨_, rfl⟩
  have c5 := two_cells w4 3 0
  rw [← e5, s5] at c5
  replace c0 := two_keep c0 (.cells #[.int .i64 3, .int .i64 0] 41)
  rw [← e5] at c0
  replace c1 := two_keep c1 (.cells #[.int .i64 3, .int .i64 0] 41)
  rw [← e5] at c1
  replace c2 := two_keep c2 (.cells #[.int .i64 3, .int .i64 0] 41)
  rw [← e5] at c2
  replace c3 := two_keep c3 (.cells #[.int .i64 3, .int .i64 0] 41)
  rw [← e5] at c3
  replace c4 := two_keep c4 (.cells #[.int .i64 3, .int .i64 0] 41)
  rw [← e5] at c4
  rw [← e5]
  have s6 : w5.heap.size = w.heap.size + 6 := by rw [e5, World.size_alloc, s5]
  obtain ⟨w6, e6⟩ : ∃ w6, w6 = w5.alloc (.cells #[.int .i64 4, .int .i64 0] 41) := ⟨_, rfl⟩
  have c6 := two_cells w5 4 0
  rw [← e6, s6] at c6
  replace c0 := two_keep c0 (.cells #[.int .i64 4, .int .i64 0] 41)
  rw [← e6] at c0
  replace c1 := two_keep c1 (.cells #[.int .i64 4, .int .i64 0] 41)
  rw [← e6] at c1
  replace c2 := two_keep c2 (.cells #[.int .i64 4, .int .i64 0] 41)
  rw [← e6] at c2
  replace c3 := two_keep c3 (.cells #[.int .i64 4, .int .i64 0] 41)
  rw [← e6] at c3
  replace c4 := two_keep c4 (.cells #[.int .i64 4, .int .i64 0] 41)
  rw [← e6] at c4
  replace c5 := two_keep c5 (.cells #[.int .i64 4, .int .i64 0] 41)
  rw [← e6] at c5
  rw [← e6]
  have s7 : w6.heap.size = w.heap.size + 7 := by rw [e6, World.size_alloc, s6]
  obtain ⟨w7, e7⟩ : ∃ w7, w7 = w6.alloc (.cells #[.int .i64 5, .int .i64 0] 41) := ⟨_, rfl⟩
  have c7 := two_cells w6 5 0
  rw [← e7, s7] at c7
  replace c0 := two_keep c0 (.cells #[.int .i64 5, .int .i64 0] 41)
  rw [← e7] at c0
  replace c1 := two_keep c1 (.cells #[.int .i64 5, .int .i64 0] 41)
  rw [← e7] at c1
  replace c2 := two_keep c2 (.cells #[.int .i64 5, .int .i64 0] 41)
  rw [← e7] at c2
  replace c3 := two_keep c3 (.cells #[.int .i64 5, .int .i64 0] 41)
  rw [← e7] at c3
  replace c4 := two_keep c4 (.cells #[.int .i64 5, .int .i64 0] 41)
  rw [← e7] at c4
  replace c5 := two_keep c5 (.cells #[.int .i64 5, .int .i64 0] 41)
  rw [← e7] at c5
  replace c6 := two_keep c6 (.cells #[.int .i64 5, .int .i64 0] 41)
  rw [← e7] at c6
  rw [← e7]
  have s8 : w7.heap.size = w.heap.size + 8 := by rw [e7, World.size_alloc, s7]
  obtain ⟨w8, e8⟩ : ∃ w8, w8 = w7.alloc (.cells #[.int .i64 6, .int .i64 0] 41) := ⟨_, rfl⟩
  have c8 := two_cells w7 6 0
  rw [← e8, s8] at c8
  replace c0 := two_keep c0 (.cells #[.int .i64 6, .int .i64 0] 41)
  rw [← e8] at c0
  replace c1 := two_keep c1 (.cells #[.int .i64 6, .int .i64 0] 41)
  rw [← e8] at c1
  replace c2 := two_keep c2 (.cells #[.int .i64 6, .int .i64 0] 41)
  rw [← e8] at c2
  replace c3 := two_keep c3 (.cells #[.int .i64 6, .int .i64 0] 41)
  rw [← e8] at c3
  replace c4 := two_keep c4 (.cells #[.int .i64 6, .int .i64 0] 41)
  rw [← e8] at c4
  replace c5 := two_keep c5 (.cells #[.int .i64 6, .int .i64 0] 41)
  rw [← e8] at c5
  replace c6 := two_keep c6 (.cells #[.int .i64 6, .int .i64 0] 41)
  rw [← e8] at c6
  replace c7 := two_keep c7 (.cells #[.int .i64 6, .int .i64 0] 41)
  rw [← e8] at c7
  rw [← e8]
  have s9 : w8.heap.size = w.heap.size + 9 := by rw [e8, World.size_alloc, s8]
  obtain ⟨w9, e9⟩ : ∃ w9, w9 = w8.alloc (.cells #[.int .i64 8, .int .i64 K] 41) := ⟨_, rfl⟩
  have c9 := two_cells w8 8 K
  rw [← e9, s9] at c9
  replace c0 := two_keep c0 (.cells #[.int .i64 8, .int .i64 K] 41)
  rw [← e9] at c0
  replace c1 := two_keep c1 (.cells #[.int .i64 8, .int .i64 K] 41)
  rw [← e9] at c1
  replace c2 := two_keep c2 (.cells #[.int .i64 8, .int .i64 K] 41)
  rw [← e9] at c2
  replace c3 := two_keep c3 (.cells #[.int .i64 8, .int .i64 K] 41)
  rw [← e9] at c3
  replace c4 := two_keep c4 (.cells #[.int .i64 8, .int .i64 K] 41)
  rw [← e9] at c4
  replace c5 := two_keep c5 (.cells #[.int .i64 8, .int .i64 K] 41)
  rw [← e9] at c5
  replace c6 := two_keep c6 (.cells #[.int .i64 8, .int .i64 K] 41)
  rw [← e9] at c6
  replace c7 := two_keep c7 (.cells #[.int .i64 8, .int .i64 K] 41)
  rw [← e9] at c7
  replace c8 := two_keep c8 (.cells #[.int .i64 8, .int .i64 K] 41)
  rw [← e9] at c8
  rw [← e9]
  have s10 : w9.heap.size = w.heap.size + 10 := by rw [e9, World.size_alloc, s9]
  obtain ⟨w10, e10⟩ : ∃ w10, w10 = w9.alloc (.cells #[.int .i64 9, .int .i64 R] 41) := ⟨_, rfl⟩
  have c10 := two_cells w9 9 R
  rw [← e10, s10] at c10
  replace c0 := two_keep c0 (.cells #[.int .i64 9, .int .i64 R] 41)
  rw [← e10] at c0
  replace c1 := two_keep c1 (.cells #[.int .i64 9, .int .i64 R] 41)
  rw [← e10] at c1
  replace c2 := two_keep c2 (.cells #[.int .i64 9, .int .i64 R] 41)
  rw [← e10] at c2
  replace c3 := two_keep c3 (.cells #[.int .i64 9, .int .i64 R] 41)
  rw [← e10] at c3
  replace c4 := two_keep c4 (.cells #[.int .i64 9, .int .i64 R] 41)
  rw [← e10] at c4
  replace c5 := two_keep c5 (.cells #[.int .i64 9, .int .i64 R] 41)
  rw [← e10] at c5
  replace c6 := two_keep c6 (.cells #[.int .i64 9, .int .i64 R] 41)
  rw [← e10] at c6
  replace c7 := two_keep c7 (.cells #[.int .i64 9, .int .i64 R] 41)
  rw [← e10] at c7
  replace c8 := two_keep c8 (.cells #[.int .i64 9, .int .i64 R] 41)
  rw [← e10] at c8
  replace c9 := two_keep c9 (.cells #[.int .i64 9, .int .i64 R] 41)
  rw [← e10] at c9
  rw [← e10]
  have s11 : w10.heap.size = w.heap.size + 11 := by rw [e10, World.size_alloc, s10]
  obtain ⟨w11, e11⟩ : ∃ w11, w11 = w10.alloc (.cells #[.int .i64 10, .int .i64 R] 41) := ⟨_, rfl⟩
  have c11 := two_cells w10 10 R
  rw [← e11, s11] at c11
  replace c0 := two_keep c0 (.cells #[.int .i64 10, .int .i64 R] 41)
  rw [← e11] at c0
  replace c1 := two_keep c1 (.cells #[.int .i64 10, .int .i64 R] 41)
  rw [← e11] at c1
  replace c2 := two_keep c2 (.cells #[.int .i64 10, .int .i64 R] 41)
  rw [← e11] at c2
  replace c3 := two_keep c3 (.cells #[.int .i64 10, .int .i64 R] 41)
  rw [← e11] at c3
  replace c4 := two_keep c4 (.cells #[.int .i64 10, .int .i64 R] 41)
  rw [← e11] at c4
  replace c5 := two_keep c5 (.cells #[.int .i64 10, .int .i64 R] 41)
  rw [← e11] at c5
  replace c6 := two_keep c6 (.cells #[.int .i64 10, .int .i64 R] 41)
  rw [← e11] at c6
  replace c7 := two_keep c7 (.cells #[.int .i64 10, .int .i64 R] 41)
  rw [← e11] at c7
  replace c8 := two_keep c8 (.cells #[.int .i64 10, .int .i64 R] 41)
  rw [← e11] at c8
  replace c9 := two_keep c9 (.cells #[.int .i64 10, .int .i64 R] 41)
  rw [← e11] at c9
  replace c10 := two_keep c10 (.cells #[.int .i64 10, .int .i64 R] 41)
  rw [← e11] at c10
  rw [← e11]
  exact ⟨by rw [e11, World.size_alloc, s11]; omega, c0, c1, c2, c3, c4, c5, c6, c7, c8, c9, c10, c11⟩
theorem tw_below (w : World) (D E B K R : Int) : Below w.heap.size w ((((((((((((w.alloc (.cells #[.int .i64 1, .int .i64 D] 41)).alloc (.cells #[.int .i64 1, .int .i64 E] 41)).alloc (.cells #[.int .i64 1, .int .i64 B] 41)).alloc (.cells #[.int .i64 2, .int .i64 D] 41)).alloc (.cells #[.int .i64 7, .int .i64 D] 41)).alloc (.cells #[.int .i64 3, .int .i64 0] 41)).alloc (.cells #[.int .i64 4, .int .i64 0] 41)).alloc (.cells #[.int .i64 5, .int .i64 0] 41)).alloc (.cells #[.int .i64 6, .int .i64 0] 41)).alloc (.cells #[.int .i64 8, .int .i64 K] 41)).alloc (.cells #[.int .i64 9, .int .i64 R] 41)).alloc (.cells #[.int .i64 10, .int .i64 R] 41)) := below_alloc (below_alloc (below_alloc (below_alloc (below_alloc (below_alloc (below_alloc (below_alloc (below_alloc (below_alloc (below_alloc (below_alloc (Below.refl _ _) _) _) _) _) _) _) _) _) _) _) _) _
theorem blk_keep {W : World} {g : Nat} {x : Obj} (h : W.heap[g]? = some x) (o : Obj) : (W.alloc o).heap[g]? = some x := (Below.heap_alloc _ _ _ (Array.getElem?_eq_some_iff.1 h).1).trans h
theorem own_block {n g : Nat} {W : World} {l : List (Int × Int)} (hg : n ≤ g) (hl : l.length ≤ 100) (h : W.heap[g]? = some (.cells (flatP l).toArray 41 (0, 0))) : OwnStp n W (.slice (some ⟨g, 0, none⟩) l.length l.length) l := by
  have hf := flatP_len l
  exact ⟨hf, .inr ⟨g, l.length, (flatP l).toArray, rfl, hg, h, Nat.le_refl _, by unfold maxLen; omega, by simpa using hf, by rw [← hf]; simp⟩⟩
/-- The library in memory. -/
structure LibAt (V : World) (g bV : Nat) (L : List (List (Int × Int))) : Prop where
  row : ∀ i, i < 16 → V.cell? ⟨bV, i, none⟩ = some (.slice (some ⟨g + i, 0, none⟩) (L[i]?.getD []).length (L[i]?.getD []).length)
  blk : ∀ i, i < 16 → V.heap[g + i]? = some (.cells (flatP (L[i]?.getD [])).toArray 41 (0, 0))
set_option maxRecDepth 100000 in
theorem lib_made (W : World) (D E B K R : Int) : LibAt (((((((((((((((((W.alloc (.cells #[.int .i64 1, .int .i64 D, .int .i64 3, .int .i64 0] 41)).alloc (.cells #[.int .i64 1, .int .i64 D, .int .i64 4, .int .i64 0, .int .i64 6, .int .i64 0] 41)).alloc (.cells #[.int .i64 2, .int .i64 D] 41)).alloc (.cells #[.int .i64 2, .int .i64 D, .int .i64 4, .int .i64 0, .int .i64 6, .int .i64 0] 41)).alloc (.cells #[.int .i64 1, .int .i64 D, .int .i64 4, .int .i64 0, .int .i64 6, .int .i64 0, .int .i64 1, .int .i64 D] 41)).alloc (.cells #[.int .i64 1, .int .i64 D, .int .i64 1, .int .i64 E] 41)).alloc (.cells #[.int .i64 1, .int .i64 D, .int .i64 7, .int .i64 D] 41)).alloc (.cells #[.int .i64 1, .int .i64 D, .int .i64 3, .int .i64 0, .int .i64 8, .int .i64 K] 41)).alloc (.cells #[.int .i64 9, .int .i64 R, .int .i64 1, .int .i64 D, .int .i64 1, .int .i64 D, .int .i64 10, .int .i64 R] 41)).alloc (.cells #[.int .i64 1, .int .i64 D, .int .i64 5, .int .i64 0, .int .i64 1, .int .i64 D, .int .i64 3, .int .i64 0] 41)).alloc (.cells #[.int .i64 10, .int .i64 R, .int .i64 1, .int .i64 D] 41)).alloc (.cells #[.int .i64 1, .int .i64 D, .int .i64 4, .int .i64 0, .int .i64 6, .int .i64 0, .int .i64 1, .int .i64 B] 41)).alloc (.cells #[.int .i64 1, .int .i64 D, .int .i64 4, .int .i64 0, .int .i64 6, .int .i64 0, .int .i64 1, .int .i64 E, .int .i64 4, .int .i64 0, .int .i64 6, .int .i64 0] 41)).alloc (.cells #[.int .i64 2, .int .i64 D, .int .i64 5, .int .i64 0, .int .i64 1, .int .i64 D] 41)).alloc (.cells #[.int .i64 1, .int .i64 D, .int .i64 4, .int .i64 0, .int .i64 6, .int .i64 0, .int .i64 8, .int .i64 K] 41)).alloc (.cells #[.int .i64 1, .int .i64 D, .int .i64 7, .int .i64 D, .int .i64 1, .int .i64 E] 41)).alloc (.cells #[.slice (some ⟨W.heap.size, 0, none⟩) 2 2, .slice (some ⟨W.heap.size + 1, 0, none⟩) 3 3, .slice (some ⟨W.heap.size + 1 + 1, 0, none⟩) 1 1, .slice (some ⟨W.heap.size + 1 + 1 + 1, 0, none⟩) 3 3, .slice (some ⟨W.heap.size + 1 + 1 + 1 + 1, 0, none⟩) 4 4, .slice (some ⟨W.heap.size + 1 + 1 + 1 + 1 + 1, 0, none⟩) 2 2, .slice (some ⟨W.heap.size + 1 + 1 + 1 + 1 + 1 + 1, 0, none⟩) 2 2, .slice (some ⟨W.heap.size + 1 + 1 + 1 + 1 + 1 + 1 + 1, 0, none⟩) 3 3, .slice (some ⟨W.heap.size + 1 + 1 + 1 + 1 + 1 + 1 + 1 + 1, 0, none⟩) 4 4, .slice (some ⟨W.heap.size + 1 + 1 + 1 + 1 + 1 + 1 + 1 + 1 + 1, 0, none⟩) 4 4, .slice (some ⟨W.heap.size + 1 + 1 + 1 + 1 + 1 + 1 + 1 + 1 + 1 + 1, 0, none⟩) 2 2, .slice (some ⟨W.heap.size + 1 + 1 + 1 + 1 + 1 + 1 + 1 + 1 + 1 + 1 + 1, 0, none⟩) 4 4, .slice (some ⟨W.heap.size + 1 + 1 + 1 + 1 + 1 + 1 + 1 + 1 + 1 + 1 + 1 + 1, 0, none⟩) 6 6, .slice (some ⟨W.heap.size + 1 + 1 + 1 + 1 + 1 + 1 + 1 + 1 + 1 + 1 + 1 + 1 + 1, 0, none⟩) 3 3, .slice (some ⟨W.heap.size + 1 + 1 + 1 + 1 + 1 + 1 + 1 + 1 + 1 + 1 + 1 + 1 + 1 + 1, 0, none⟩) 4 4, .slice (some ⟨W.heap.size + 1 + 1 + 1 + 1 + 1 + 1 + 1 + 1 + 1 + 1 + 1 + 1 + 1 + 1 + 1, 0, none⟩) 3 3] 26)) W.heap.size (W.heap.size + 1 + 1 + 1 + 1 + 1 + 1 + 1 + 1 + 1 + 1 + 1 + 1 + 1 + 1 + 1 + 1) (libL D E B K R) := by
  have s0 : W.heap.size = W.heap.size + 0 := by rfl
  obtain ⟨w0, e0⟩ : ∃ w0, w0 = W.alloc (.cells #[.int .i64 1, .int .i64 D, .int .i64 3, .int .i64 0] 41) := ⟨_, rfl⟩
  have c0 := World.alloc_heap_new W (.cells #[.int .i64 1, .int .i64 D, .int .i64 3, .int .i64 0] 41)
  rw [← e0, s0] at c0
  rw [← e0]
  have s1 : w0.heap.size = W.heap.size + 1 := by rw [e0, World.size_alloc, s0]
  obtain ⟨w1, e1⟩ : ∃ w1, w1 = w0.alloc (.cells #[.int .i64 1, .int .i64 D, .int .i64 4, .int .i64 0, .int .i64 6, .int .i64 0] 41) := ⟨_, rfl⟩
  have c1 := World.alloc_heap_new w0 (.cells #[.int .i64 1, .int .i64 D, .int .i64 4, .int .i64 0, .int .i64 6, .int .i64 0] 41)
  rw [← e1, s1] at c1
  replace c0 := blk_keep c0 (.cells #[.int .i64 1, .int .i64 D, .int .i64 4, .int .i64 0, .int .i64 6, .int .i64 0] 41)
  rw [← e1] at c0
  rw [← e1]
  have s2 : w1.heap.size = W.heap.size + 2 := by rw [e1, World.size_alloc, s1]
  obtain ⟨w2, e2⟩ : ∃ w2, w2 = w1.alloc (.cells #[.int .i64 2, .int .i64 D] 41) := ⟨_, rfl⟩
  have c2 := World.alloc_heap_new w1 (.cells #[.int .i64 2, .int .i64 D] 41)
  rw [← e2, s2] at c2
  replace c0 := blk_keep c0 (.cells #[.int .i64 2, .int .i64 D] 41)
  rw [← e2] at c0
  replace c1 := blk_keep c1 (.cells #[.int .i64 2, .int .i64 D] 41)
  rw [← e2] at c1
  rw [← e2]
  have s3 : w2.heap.size = W.heap.size + 3 := by rw [e2, World.size_alloc, s2]
  obtain ⟨w3, e3⟩ : ∃ w3, w3 = w2.alloc (.cells #[.int .i64 2, .int .i64 D, .int .i64 4, .int .i64 0, .int .i64 6, .int .i64 0] 41) := ⟨_, rfl⟩
  have c3 := World.alloc_heap_new w2 (.cells #[.int .i64 2, .int .i64 D, .int .i64 4, .int .i64 0, .int .i64 6, .int .i64 0] 41)
  rw [← e3, s3] at c3
  replace c0 := blk_keep c0 (.cells #[.int .i64 2, .int .i64 D, .int .i64 4, .int .i64 0, .int .i64 6, .int .i64 0] 41)
  rw [← e3] at c0
  replace c1 := blk_keep c1 (.cells #[.int .i64 2, .int .i64 D, .int .i64 4, .int .i64 0, .int .i64 6, .int .i64 0] 41)
  rw [← e3] at c1
  replace c2 := blk_keep c2 (.cells #[.int .i64 2, .int .i64 D, .int .i64 4, .int .i64 0, .int .i64 6, .int .i64 0] 41)
  rw [← e3] at c2
  rw [← e3]
  have s4 : w3.heap.size = W.heap.size + 4 := by rw [e3, World.size_alloc, s3]
  obtain ⟨w4, e4⟩ : ∃ w4, w4 = w3.alloc (.cells #[.int .i64 1, .int .i64 D, .int .i64 4, .int .i64 0, .int .i64 6, .int .i64 0, .int .i64 1, .int .i64 D] 41) := ⟨_, rfl⟩
  have c4 := World.alloc_heap_new w3 (.cells #[.int .i64 1, .int .i64 D, .int .i64 4, .int .i64 0, .int .i64 6, .int .i64 0, .int .i64 1, .int .i64 D] 41)
  rw [← e4, s4] at c4
  replace c0 := blk_keep c0 (.cells #[.int .i64 1, .int .i64 D, .int .i64 4, .int .i64 0, .int .i64 6, .int .i64 0, .int .i64 1, .int .i64 D] 41)
  rw [← e4] at c0
  replace c1 := blk_keep c1 (.cells #[.int .i64 1, .int .i64 D, .int .i64 4, .int .i64 0, .int .i64 6, .int .i64 0, .int .i64 1, .int .i64 D] 41)
  rw [← e4] at c1
  replace c2 := blk_keep c2 (.cells #[.int .i64 1, .int .i64 D, .int .i64 4, .int .i64 0, .int .i64 6, .int .i64 0, .int .i64 1, .int .i64 D] 41)
  rw [← e4] at c2
  replace c3 := blk_keep c3 (.cells #[.int .i64 1, .int .i64 D, .int .i64 4, .int .i64 0, .int .i64 6, .int .i64 0, .int .i64 1, .int .i64 D] 41)
  rw [← e4] at c3
  rw [← e4]
  have s5 : w4.heap.size = W.heap.size + 5 := by rw [e4, World.size_alloc, s4]
  obtain ⟨w5, e5⟩ : ∃ w5, w5 = w4.alloc (.cells #[.int .i64 1, .int .i64 D, .int .i64 1, .int .i64 E] 41) := ⟨_, rfl⟩
  have c5 := World.alloc_heap_new w4 (.cells #[.int .i64 1, .int .i64 D, .int .i64 1, .int .i64 E] 41)
  rw [← e5, s5] at c5
  replace c0 := blk_keep c0 (.cells #[.int .i64 1, .int .i64 D, .int .i64 1, .int .i64 E] 41)
  rw [← e5] at c0
  replace c1 := blk_keep c1 (.cells #[.int .i64 1, .int .i64 D, .int .i64 1, .int .i64 E] 41)
  rw [← e5] at c1
  replace c2 := blk_keep c2 (.cells #[.int .i64 1, .int .i64 D, .int .i64 1, .int .i64 E] 41)
  rw [← e5] at c2
  replace c3 := blk_keep c3 (.cells #[.int .i64 1, .int .i64 D, .int .i64 1, .int .i64 E] 41)
  rw [← e5] at c3
  replace c4 := blk_keep c4 (.cells #[.int .i64 1, .int .i64 D, .int .i64 1, .int .i64 E] 41)
  rw [← e5] at c4
  rw [← e5]
  have s6 : w5.heap.size = W.heap.size + 6 := by rw [e5, World.size_alloc, s5]
  obtain ⟨w6, e6⟩ : ∃ w6, w6 = w5.alloc (.cells #[.int .i64 1, .int .i64 D, .int .i64 7, .int .i64 D] 41) := ⟨_, rfl⟩
  have c6 := World.alloc_heap_new w5 (.cells #[.int .i64 1, .int .i64 D, .int .i64 7, .int .i64 D] 41)
  rw [← e6, s6] at c6
  replace c0 := blk_keep c0 (.cells #[.int .i64 1, .int .i64 D, .int .i64 7, .int .i64 D] 41)
  rw [← e6] at c0
  replace c1 := blk_keep c1 (.cells #[.int .i64 1, .int .i64 D, .int .i64 7, .int .i64 D] 41)
  rw [← e6] at c1
  replace c2 := blk_keep c2 (.cells #[.int .i64 1, .int .i64 D, .int .i64 7, .int .i64 D] 41)
  rw [← e6] at c2
  replace c3 := blk_keep c3 (.cells #[.int .i64 1, .int .i64 D, .int .i64 7, .int .i64 D] 41)
  rw [← e6] at c3
  replace c4 := blk_keep c4 (.cells #[.int .i64 1, .int .i64 D, .int .i64 7, .int .i64 D] 41)
  rw [← e6] at c4
  replace c5 := blk_keep c5 (.cells #[.int .i64 1, .int .i64 D, .int .i64 7, .int .i64 D] 41)
  rw [← e6] at c5
  rw [← e6]
  have s7 : w6.heap.size = W.heap.size + 7 := by rw [e6, World.size_alloc, s6]
  obtain ⟨w7, e7⟩ : ∃ w7, w7 = w6.alloc (.cells #[.int .i64 1, .int .i64 D, .int .i64 3, .int .i64 0, .int .i64 8, .int .i64 K] 41) := ⟨_, rfl⟩
  have c7 := World.alloc_heap_new w6 (.cells #[.int .i64 1, .int .i64 D, .int .i64 3, .int .i64 0, .int .i64 8, .int .i64 K] 41)
  rw [← e7, s7] at c7
  replace c0 := blk_keep c0 (.cells #[.int .i64 1, .int .i64 D, .int .i64 3, .int .i64 0, .int .i64 8, .int .i64 K] 41)
  rw [← e7] at c0
  replace c1 := blk_keep c1 (.cells #[.int .i64 1, .int .i64 D, .int .i64 3, .int .i64 0, .int .i64 8, .int .i64 K] 41)
  rw [← e7] at c1
  replace c2 := blk_keep c2 (.cells #[.int .i64 1, .int .i64 D, .int .i64 3, .int .i64 0, .int .i64 8, .int .i64 K] 41)
  rw [← e7] at c2
  replace c3 := blk_keep c3 (.cells #[.int .i64 1, .int .i64 D, .int .i64 3, .int .i64 0, .int .i64 8, .int .i64 K] 41)
  rw [← e7] at c3
  replace c4 := blk_keep c4 (.cells #[.int .i64 1, .int .i64 D, .int .i64 3, .int .i64 0, .int .i64 8, .int .i64 K] 41)
  rw [← e7] at c4
  replace c5 := blk_keep c5 (.cells #[.int .i64 1, .int .i64 D, .int .i64 3, .int .i64 0, .int .i64 8, .int .i64 K] 41)
  rw [← e7] at c5
  replace c6 := blk_keep c6 (.cells #[.int .i64 1, .int .i64 D, .int .i64 3, .int .i64 0, .int .i64 8, .int .i64 K] 41)
  rw [← e7] at c6
  rw [← e7]
  have s8 : w7.heap.size = W.heap.size + 8 := by rw [e7, World.size_alloc, s7]
  obtain ⟨w8, e8⟩ : ∃ w8, w8 = w7.alloc (.cells #[.int .i64 9, .int .i64 R, .int .i64 1, .int .i64 D, .int .i64 1, .int .i64 D, .int .i64 10, .int .i64 R] 41) := ⟨_, rfl⟩
  have c8 := World.alloc_heap_new w7 (.cells #[.int .i64 9, .int .i64 R, .int .i64 1, .int .i64 D, .int .i64 1, .int .i64 D, .int .i64 10, .int .i64 R] 41)
  rw [← e8, s8] at c8
  replace c0 := blk_keep c0 (.cells #[.int .i64 9, .int .i64 R, .int .i64 1, .int .i64 D, .int .i64 1, .int .i64 D, .int .i64 10, .int .i64 R] 41)
  rw [← e8] at c0
  replace c1 := blk_keep c1 (.cells #[.int .i64 9, .int .i64 R, .int .i64 1, .int .i64 D, .int .i64 1, .int .i64 D, .int .i64 10, .int .i64 R] 41)
  rw [← e8] at c1
  replace c2 := blk_keep c2 (.cells #[.int .i64 9, .int .i64 R, .int .i64 1, .int .i64 D, .int .i64 1, .int .i64 D, .int .i64 10, .int .i64 R] 41)
  rw [← e8] at c2
  replace c3 := blk_keep c3 (.cells #[.int .i64 9, .int .i64 R, .int .i64 1, .int .i64 D, .int .i64 1, .int .i64 D, .int .i64 10, .int .i64 R] 41)
  rw [← e8] at c3
  replace c4 := blk_keep c4 (.cells #[.int .i64 9, .int .i64 R, .int .i64 1, .int .i64 D, .int .i64 1, .int .i64 D, .int .i64 10, .int .i64 R] 41)
  rw [← e8] at c4
  replace c5 := blk_keep c5 (.cells #[.int .i64 9, .int .i64 R, .int .i64 1, .int .i64 D, .int .i64 1, .int .i64 D, .int .i64 10, .int .i64 R] 41)
  rw [← e8] at c5
  replace c6 := blk_keep c6 (.cells #[.int .i64 9, .int .i64 R, .int .i64 1, .int .i64 D, .int .i64 1, .int .i64 D, .int .i64 10, .int .i64 R] 41)
  rw [← e8] at c6
  replace c7 := blk_keep c7 (.cells #[.int .i64 9, .int .i64 R, .int .i64 1, .int .i64 D, .int .i64 1, .int .i64 D, .int .i64 10, .int .i64 R] 41)
  rw [← e8] at c7
  rw [← e8]
  have s9 : w8.heap.size = W.heap.size + 9 := by rw [e8, World.size_alloc, s8]
  obtain ⟨w9, e9⟩ : ∃ w9, w9 = w8.alloc (.cells #[.int .i64 1, .int .i64 D, .int .i64 5, .int .i64 0, .int .i64 1, .int .i64 D, .int .i64 3, .int .i64 0] 41) := ⟨_, rfl⟩
  have c9 := World.alloc_heap_new w8 (.cells #[.int .i64 1, .int .i64 D, .int .i64 5, .int .i64 0, .int .i64 1, .int .i64 D, .int .i64 3, .int .i64 0] 41)
  rw [← e9, s9] at c9
  replace c0 := blk_keep c0 (.cells #[.int .i64 1, .int .i64 D, .int .i64 5, .int .i64 0, .int .i64 1, .int .i64 D, .int .i64 3, .int .i64 0] 41)
  rw [← e9] at c0
  replace c1 := blk_keep c1 (.cells #[.int .i64 1, .int .i64 D, .int .i64 5, .int .i64 0, .int .i64 1, .int .i64 D, .int .i64 3, .int .i64 0] 41)
  rw [← e9] at c1
  replace c2 := blk_keep c2 (.cells #[.int .i64 1, .int .i64 D, .int .i64 5, .int .i64 0, .int .i64 1, .int .i64 D, .int .i64 3, .int .i64 0] 41)
  rw [← e9] at c2
  replace c3 := blk_keep c3 (.cells #[.int .i64 1, .int .i64 D, .int .i64 5, .int .i64 0, .int .i64 1, .int .i64 D, .int .i64 3, .int .i64 0] 41)
  rw [← e9] at c3
  replace c4 := blk_keep c4 (.cells #[.int .i64 1, .int .i64 D, .int .i64 5, .int .i64 0, .int .i64 1, .int .i64 D, .int .i64 3, .int .i64 0] 41)
  rw [← e9] at c4
  replace c5 := blk_keep c5 (.cells #[.int .i64 1, .int .i64 D, .int .i64 5, .int .i64 0, .int .i64 1, .int .i64 D, .int .i64 3, .int .i64 0] 41)
  rw [← e9] at c5
  replace c6 := blk_keep c6 (.cells #[.int .i64 1, .int .i64 D, .int .i64 5, .int .i64 0, .int .i64 1, .int .i64 D, .int .i64 3, .int .i64 0] 41)
  rw [← e9] at c6
  replace c7 := blk_keep c7 (.cells #[.int .i64 1, .int .i64 D, .int .i64 5, .int .i64 0, .int .i64 1, .int .i64 D, .int .i64 3, .int .i64 0] 41)
  rw [← e9] at c7
  replace c8 := blk_keep c8 (.cells #[.int .i64 1, .int .i64 D, .int .i64 5, .int .i64 0, .int .i64 1, .int .i64 D, .int .i64 3, .int .i64 0] 41)
  rw [← e9] at c8
  rw [← e9]
  have s10 : w9.heap.size = W.heap.size + 10 := by rw [e9, World.size_alloc, s9]
  obtain ⟨w10, e10⟩ : ∃ w10, w10 = w9.alloc (.cells #[.int .i64 10, .int .i64 R, .int .i64 1, .int .i64 D] 41) := ⟨_, rfl⟩
  have c10 := World.alloc_heap_new w9 (.cells #[.int .i64 10, .int .i64 R, .int .i64 1, .int .i64 D] 41)
  rw [← e10, s10] at c10
  replace c0 := blk_keep c0 (.cells #[.int .i64 10, .int .i64 R, .int .i64 1, .int .i64 D] 41)
  rw [← e10] at c0
  replace c1 := blk_keep c1 (.cells #[.int .i64 10, .int .i64 R, .int .i64 1, .int .i64 D] 41)
  rw [← e10] at c1
  replace c2 := blk_keep c2 (.cells #[.int .i64 10, .int .i64 R, .int .i64 1, .int .i64 D] 41)
  rw [← e10] at c2
  replace c3 := blk_keep c3 (.cells #[.int .i64 10, .int .i64 R, .int .i64 1, .int .i64 D] 41)
  rw [← e10] at c3
  replace c4 := blk_keep c4 (.cells #[.int .i64 10, .int .i64 R, .int .i64 1, .int .i64 D] 41)
  rw [← e10] at c4
  replace c5 := blk_keep c5 (.cells #[.int .i64 10, .int .i64 R, .int .i64 1, .int .i64 D] 41)
  rw [← e10] at c5
  replace c6 := blk_keep c6 (.cells #[.int .i64 10, .int .i64 R, .int .i64 1, .int .i64 D] 41)
  rw [← e10] at c6
  replace c7 := blk_keep c7 (.cells #[.int .i64 10, .int .i64 R, .int .i64 1, .int .i64 D] 41)
  rw [← e10] at c7
  replace c8 := blk_keep c8 (.cells #[.int .i64 10, .int .i64 R, .int .i64 1, .int .i64 D] 41)
  rw [← e10] at c8
  replace c9 := blk_keep c9 (.cells #[.int .i64 10, .int .i64 R, .int .i64 1, .int .i64 D] 41)
  rw [← e10] at c9
  rw [← e10]
  have s11 : w10.heap.size = W.heap.size + 11 := by rw [e10, World.size_alloc, s10]
  obtain ⟨w11, e11⟩ : ∃ w11, w11 = w10.alloc (.cells #[.int .i64 1, .int .i64 D, .int .i64 4, .int .i64 0, .int .i64 6, .int .i64 0, .int .i64 1, .int .i64 B] 41) := ⟨_, rfl⟩
  have c11 := World.alloc_heap_new w10 (.cells #[.int .i64 1, .int .i64 D, .int .i64 4, .int .i64 0, .int .i64 6, .int .i64 0, .int .i64 1, .int .i64 B] 41)
  rw [← e11, s11] at c11
  replace c0 := blk_keep c0 (.cells #[.int .i64 1, .int .i64 D, .int .i64 4, .int .i64 0, .int .i64 6, .int .i64 0, .int .i64 1, .int .i64 B] 41)
  rw [← e11] at c0
  replace c1 := blk_keep c1 (.cells #[.int .i64 1, .int .i64 D, .int .i64 4, .int .i64 0, .int .i64 6, .int .i64 0, .int .i64 1, .int .i64 B] 41)
  rw [← e11] at c1
  replace c2 := blk_keep c2 (.cells #[.int .i64 1, .int .i64 D, .int .i64 4, .int .i64 0, .int .i64 6, .int .i64 0, .int .i64 1, .int .i64 B] 41)
  rw [← e11] at c2
  replace c3 := blk_keep c3 (.cells #[.int .i64 1, .int .i64 D, .int .i64 4, .int .i64 0, .int .i64 6, .int .i64 0, .int .i64 1, .int .i64 B] 41)
  rw [← e11] at c3
  replace c4 := blk_keep c4 (.cells #[.int .i64 1, .int .i64 D, .int .i64 4, .int .i64 0, .int .i64 6, .int .i64 0, .int .i64 1, .int .i64 B] 41)
  rw [← e11] at c4
  replace c5 := blk_keep c5 (.cells #[.int .i64 1, .int .i64 D, .int .i64 4, .int .i64 0, .int .i64 6, .int .i64 0, .int .i64 1, .int .i64 B] 41)
  rw [← e11] at c5
  replace c6 := blk_keep c6 (.cells #[.int .i64 1, .int .i64 D, .int .i64 4, .int .i64 0, .int .i64 6, .int .i64 0, .int .i64 1, .int .i64 B] 41)
  rw [← e11] at c6
  replace c7 := blk_keep c7 (.cells #[.int .i64 1, .int .i64 D, .int .i64 4, .int .i64 0, .int .i64 6, .int .i64 0, .int .i64 1, .int .i64 B] 41)
  rw [← e11] at c7
  replace c8 := blk_keep c8 (.cells #[.int .i64 1, .int .i64 D, .int .i64 4, .int .i64 0, .int .i64 6, .int .i64 0, .int .i64 1, .int .i64 B] 41)
  rw [← e11] at c8
  replace c9 := blk_keep c9 (.cells #[.int .i64 1, .int .i64 D, .int .i64 4, .int .i64 0, .int .i64 6, .int .i64 0, .int .i64 1, .int .i64 B] 41)
  rw [← e11] at c9
  replace c10 := blk_keep c10 (.cells #[.int .i64 1, .int .i64 D, .int .i64 4, .int .i64 0, .int .i64 6, .int .i64 0, .int .i64 1, .int .i64 B] 41)
  rw [← e11] at c10
  rw [← e11]
  have s12 : w11.heap.size = W.heap.size + 12 := by rw [e11, World.size_alloc, s11]
  obtain ⟨w12, e12⟩ : ∃ w12, w12 = w11.alloc (.cells #[.int .i64 1, .int .i64 D, .int .i64 4, .int .i64 0, .int .i64 6, .int .i64 0, .int .i64 1, .int .i64 E, .int .i64 4, .int .i64 0, .int .i64 6, .int .i64 0] 41) := ⟨_, rfl⟩
  have c12 := World.alloc_heap_new w11 (.cells #[.int .i64 1, .int .i64 D, .int .i64 4, .int .i64 0, .int .i64 6, .int .i64 0, .int .i64 1, .int .i64 E, .int .i64 4, .int .i64 0, .int .i64 6, .int .i64 0] 41)
  rw [← e12, s12] at c12
  replace c0 := blk_keep c0 (.cells #[.int .i64 1, .int .i64 D, .int .i64 4, .int .i64 0, .int .i64 6, .int .i64 0, .int .i64 1, .int .i64 E, .int .i64 4, .int .i64 0, .int .i64 6, .int .i64 0] 41)
  rw [← e12] at c0
  replace c1 := blk_keep c1 (.cells #[.int .i64 1, .int .i64 D, .int .i64 4, .int .i64 0, .int .i64 6, .int .i64 0, .int .i64 1, .int .i64 E, .int .i64 4, .int .i64 0, .int .i64 6, .int .i64 0] 41)
  rw [← e12] at c1
  replace c2 := blk_keep c2 (.cells #[.int .i64 1, .int .i64 D, .int .i64 4, .int .i64 0, .int .i64 6, .int .i64 0, .int .i64 1, .int .i64 E, .int .i64 4, .int .i64 0, .int .i64 6, .int .i64 0] 41)
  rw [← e12] at c2
  replace c3 := blk_keep c3 (.cells #[.int .i64 1, .int .i64 D, .int .i64 4, .int .i64 0, .int .i64 6, .int .i64 0, .int .i64 1, .int .i64 E, .int .i64 4, .int .i64 0, .int .i64 6, .int .i64 0] 41)
  rw [← e12] at c3
  replace c4 := blk_keep c4 (.cells #[.int .i64 1, .int .i64 D, .int .i64 4, .int .i64 0, .int .i64 6, .int .i64 0, .int .i64 1, .int .i64 E, .int .i64 4, .int .i64 0, .int .i64 6, .int .i64 0] 41)
  rw [← e12] at c4
  replace c5 := blk_keep c5 (.cells #[.int .i64 1, .int .i64 D, .int .i64 4, .int .i64 0, .int .i64 6, .int .i64 0, .int .i64 1, .int .i64 E, .int .i64 4, .int .i64 0, .int .i64 6, .int .i64 0] 41)
  rw [← e12] at c5
  replace c6 := blk_keep c6 (.cells #[.int .i64 1, .int .i64 D, .int .i64 4, .int .i64 0, .int .i64 6, .int .i64 0, .int .i64 1, .int .i64 E, .int .i64 4, .int .i64 0, .int .i64 6, .int .i64 0] 41)
  rw [← e12] at c6
  replace c7 := blk_keep c7 (.cells #[.int .i64 1, .int .i64 D, .int .i64 4, .int .i64 0, .int .i64 6, .int .i64 0, .int .i64 1, .int .i64 E, .int .i64 4, .int .i64 0, .int .i64 6, .int .i64 0] 41)
  rw [← e12] at c7
  replace c8 := blk_keep c8 (.cells #[.int .i64 1, .int .i64 D, .int .i64 4, .int .i64 0, .int .i64 6, .int .i64 0, .int .i64 1, .int .i64 E, .int .i64 4, .int .i64 0, .int .i64 6, .int .i64 0] 41)
  rw [← e12] at c8
  replace c9 := blk_keep c9 (.cells #[.int .i64 1, .int .i64 D, .int .i64 4, .int .i64 0, .int .i64 6, .int .i64 0, .int .i64 1, .int .i64 E, .int .i64 4, .int .i64 0, .int .i64 6, .int .i64 0] 41)
  rw [← e12] at c9
  replace c10 := blk_keep c10 (.cells #[.int .i64 1, .int .i64 D, .int .i64 4, .int .i64 0, .int .i64 6, .int .i64 0, .int .i64 1, .int .i64 E, .int .i64 4, .int .i64 0, .int .i64 6, .int .i64 0] 41)
  rw [← e12] at c10
  replace c11 := blk_keep c11 (.cells #[.int .i64 1, .int .i64 D, .int .i64 4, .int .i64 0, .int .i64 6, .int .i64 0, .int .i64 1, .int .i64 E, .int .i64 4, .int .i64 0, .int .i64 6, .int .i64 0] 41)
  rw [← e12] at c11
  rw [← e12]
  have s13 : w12.heap.size = W.heap.size + 13 := by rw [e12, World.size_alloc, s12]
  obtain ⟨w13, e13⟩ : ∃ w13, w13 = w12.alloc (.cells #[.int .i64 2, .int .i64 D, .int .i64 5, .int .i64 0, .int .i64 1, .int .i64 D] 41) := ⟨_, rfl⟩
  have c13 := World.alloc_heap_new w12 (.cells #[.int .i64 2, .int .i64 D, .int .i64 5, .int .i64 0, .int .i64 1, .int .i64 D] 41)
  rw [← e13, s13] at c13
  replace c0 := blk_keep c0 (.cells #[.int .i64 2, .int .i64 D, .int .i64 5, .int .i64 0, .int .i64 1, .int .i64 D] 41)
  rw [← e13] at c0
  replace c1 := blk_keep c1 (.cells #[.int .i64 2, .int .i64 D, .int .i64 5, .int .i64 0, .int .i64 1, .int .i64 D] 41)
  rw [← e13] at c1
  replace c2 := blk_keep c2 (.cells #[.int .i64 2, .int .i64 D, .int .i64 5, .int .i64 0, .int .i64 1, .int .i64 D] 41)
  rw [← e13] at c2
  replace c3 := blk_keep c3 (.cells #[.int .i64 2, .int .i64 D, .int .i64 5, .int .i64 0, .int .i64 1, .int .i64 D] 41)
  rw [← e13] at c3
  replace c4 := blk_keep c4 (.cells #[.int .i64 2, .int .i64 D, .int .i64 5, .int .i64 0, .int .i64 1, .int .i64 D] 41)
  rw [← e13] at c4
  replace c5 := blk_keep c5 (.cells #[.int .i64 2, .int .i64 D, .int .i64 5, .int .i64 0, .int .i64 1, .int .i64 D] 41)
  rw [← e13] at c5
  replace c6 := blk_keep c6 (.cells #[.int .i64 2, .int .i64 D, .int .i64 5, .int .i64 0, .int .i64 1, .int .i64 D] 41)
  rw [← e13] at c6
  replace c7 := blk_keep c7 (.cells #[.int .i64 2, .int .i64 D, .int .i64 5, .int .i64 0, .int .i64 1, .int .i64 D] 41)
  rw [← e13] at c7
  replace c8 := blk_keep c8 (.cells #[.int .i64 2, .int .i64 D, .int .i64 5, .int .i64 0, .int .i64 1, .int .i64 D] 41)
  rw [← e13] at c8
  replace c9 := blk_keep c9 (.cells #[.int .i64 2, .int .i64 D, .int .i64 5, .int .i64 0, .int .i64 1, .int .i64 D] 41)
  rw [← e13] at c9
  replace c10 := blk_keep c10 (.cells #[.int .i64 2, .int .i64 D, .int .i64 5, .int .i64 0, .int .i64 1, .int .i64 D] 41)
  rw [← e13] at c10
  replace c11 := blk_keep c11 (.cells #[.int .i64 2, .int .i64 D, .int .i64 5, .int .i64 0, .int .i64 1, .int .i64 D] 41)
  rw [← e13] at c11
  replace c12 := blk_keep c12 (.cells #[.int .i64 2, .int .i64 D, .int .i64 5, .int .i64 0, .int .i64 1, .int .i64 D] 41)
  rw [← e13] at c12
  rw [← e13]
  have s14 : w13.heap.size = W.heap.size + 14 := by rw [e13, World.size_alloc, s13]
  obtain ⟨w14, e14⟩ : ∃ w14, w14 = w13.alloc (.cells #[.int .i64 1, .int .i64 D, .int .i64 4, .int .i64 0, .int .i64 6, .int .i64 0, .int .i64 8, .int .i64 K] 41) := ⟨_, rfl⟩
  have c14 := World.alloc_heap_new w13 (.cells #[.int .i64 1, .int .i64 D, .int .i64 4, .int .i64 0, .int .i64 6, .int .i64 0, .int .i64 8, .int .i64 K] 41)
  rw [← e14, s14] at c14
  replace c0 := blk_keep c0 (.cells #[.int .i64 1, .int .i64 D, .int .i64 4, .int .i64 0, .int .i64 6, .int .i64 0, .int .i64 8, .int .i64 K] 41)
  rw [← e14] at c0
  replace c1 := blk_keep c1 (.cells #[.int .i64 1, .int .i64 D, .int .i64 4, .int .i64 0, .int .i64 6, .int .i64 0, .int .i64 8, .int .i64 K] 41)
  rw [← e14] at c1
  replace c2 := blk_keep c2 (.cells #[.int .i64 1, .int .i64 D, .int .i64 4, .int .i64 0, .int .i64 6, .int .i64 0, .int .i64 8, .int .i64 K] 41)
  rw [← e14] at c2
  replace c3 := blk_keep c3 (.cells #[.int .i64 1, .int .i64 D, .int .i64 4, .int .i64 0, .int .i64 6, .int .i64 0, .int .i64 8, .int .i64 K] 41)
  rw [← e14] at c3
  replace c4 := blk_keep c4 (.cells #[.int .i64 1, .int .i64 D, .int .i64 4, .int .i64 0, .int .i64 6, .int .i64 0, .int .i64 8, .int .i64 K] 41)
  rw [← e14] at c4
  replace c5 := blk_keep c5 (.cells #[.int .i64 1, .int .i64 D, .int .i64 4, .int .i64 0, .int .i64 6, .int .i64 0, .int .i64 8, .int .i64 K] 41)
  rw [← e14] at c5
  replace c6 := blk_keep c6 (.cells #[.int .i64 1, .int .i64 D, .int .i64 4, .int .i64 0, .int .i64 6, .int .i64 0, .int .i64 8, .int .i64 K] 41)
  rw [← e14] at c6
  replace c7 := blk_keep c7 (.cells #[.int .i64 1, .int .i64 D, .int .i64 4, .int .i64 0, .int .i64 6, .int .i64 0, .int .i64 8, .int .i64 K] 41)
  rw [← e14] at c7
  replace c8 := blk_keep c8 (.cells #[.int .i64 1, .int .i64 D, .int .i64 4, .int .i64 0, .int .i64 6, .int .i64 0, .int .i64 8, .int .i64 K] 41)
  rw [← e14] at c8
  replace c9 := blk_keep c9 (.cells #[.int .i64 1, .int .i64 D, .int .i64 4, .int .i64 0, .int .i64 6, .int .i64 0, .int .i64 8, .int .i64 K] 41)
  rw [← e14] at c9
  replace c10 := blk_keep c10 (.cells #[.int .i64 1, .int .i64 D, .int .i64 4, .int .i64 0, .int .i64 6, .int .i64 0, .int .i64 8, .int .i64 K] 41)
  rw [← e14] at c10
  replace c11 := blk_keep c11 (.cells #[.int .i64 1, .int .i64 D, .int .i64 4, .int .i64 0, .int .i64 6, .int .i64 0, .int .i64 8, .int .i64 K] 41)
  rw [← e14] at c11
  replace c12 := blk_keep c12 (.cells #[.int .i64 1, .int .i64 D, .int .i64 4, .int .i64 0, .int .i64 6, .int .i64 0, .int .i64 8, .int .i64 K] 41)
  rw [← e14] at c12
  replace c13 := blk_keep c13 (.cells #[.int .i64 1, .int .i64 D, .int .i64 4, .int .i64 0, .int .i64 6, .int .i64 0, .int .i64 8, .int .i64 K] 41)
  rw [← e14] at c13
  rw [← e14]
  have s15 : w14.heap.size = W.heap.size + 15 := by rw [e14, World.size_alloc, s14]
  obtain ⟨w15, e15⟩ : ∃ w15, w15 = w14.alloc (.cells #[.int .i64 1, .int .i64 D, .int .i64 7, .int .i64 D, .int .i64 1, .int .i64 E] 41) := ⟨_, rfl⟩
  have c15 := World.alloc_heap_new w14 (.cells #[.int .i64 1, .int .i64 D, .int .i64 7, .int .i64 D, .int .i64 1, .int .i64 E] 41)
  rw [← e15, s15] at c15
  replace c0 := blk_keep c0 (.cells #[.int .i64 1, .int .i64 D, .int .i64 7, .int .i64 D, .int .i64 1, .int .i64 E] 41)
  rw [← e15] at c0
  replace c1 := blk_keep c1 (.cells #[.int .i64 1, .int .i64 D, .int .i64 7, .int .i64 D, .int .i64 1, .int .i64 E] 41)
  rw [← e15] at c1
  replace c2 := blk_keep c2 (.cells #[.int .i64 1, .int .i64 D, .int .i64 7, .int .i64 D, .int .i64 1, .int .i64 E] 41)
  rw [← e15] at c2
  replace c3 := blk_keep c3 (.cells #[.int .i64 1, .int .i64 D, .int .i64 7, .int .i64 D, .int .i64 1, .int .i64 E] 41)
  rw [← e15] at c3
  replace c4 := blk_keep c4 (.cells #[.int .i64 1, .int .i64 D, .int .i64 7, .int .i64 D, .int .i64 1, .int .i64 E] 41)
  rw [← e15] at c4
  replace c5 := blk_keep c5 (.cells #[.int .i64 1, .int .i64 D, .int .i64 7, .int .i64 D, .int .i64 1, .int .i64 E] 41)
  rw [← e15] at c5
  replace c6 := blk_keep c6 (.cells #[.int .i64 1, .int .i64 D, .int .i64 7, .int .i64 D, .int .i64 1, .int .i64 E] 41)
  rw [← e15] at c6
  replace c7 := blk_keep c7 (.cells #[.int .i64 1, .int .i64 D, .int .i64 7, .int .i64 D, .int .i64 1, .int .i64 E] 41)
  rw [← e15] at c7
  replace c8 := blk_keep c8 (.cells #[.int .i64 1, .int .i64 D, .int .i64 7, .int .i64 D, .int .i64 1, .int .i64 E] 41)
  rw [← e15] at c8
  replace c9 := blk_keep c9 (.cells #[.int .i64 1, .int .i64 D, .int .i64 7, .int .i64 D, .int .i64 1, .int .i64 E] 41)
  rw [← e15] at c9
  replace c10 := blk_keep c10 (.cells #[.int .i64 1, .int .i64 D, .int .i64 7, .int .i64 D, .int .i64 1, .int .i64 E] 41)
  rw [← e15] at c10
  replace c11 := blk_keep c11 (.cells #[.int .i64 1, .int .i64 D, .int .i64 7, .int .i64 D, .int .i64 1, .int .i64 E] 41)
  rw [← e15] at c11
  replace c12 := blk_keep c12 (.cells #[.int .i64 1, .int .i64 D, .int .i64 7, .int .i64 D, .int .i64 1, .int .i64 E] 41)
  rw [← e15] at c12
  replace c13 := blk_keep c13 (.cells #[.int .i64 1, .int .i64 D, .int .i64 7, .int .i64 D, .int .i64 1, .int .i64 E] 41)
  rw [← e15] at c13
  replace c14 := blk_keep c14 (.cells #[.int .i64 1, .int .i64 D, .int .i64 7, .int .i64 D, .int .i64 1, .int .i64 E] 41)
  rw [← e15] at c14
  rw [← e15]
  have s16 : w15.heap.size = W.heap.size + 16 := by rw [e15, World.size_alloc, s15]
  obtain ⟨w16, e16⟩ : ∃ w16, w16 = w15.alloc (.cells #[.slice (some ⟨W.heap.size, 0, none⟩) 2 2, .slice (some ⟨W.heap.size + 1, 0, none⟩) 3 3, .slice (some ⟨W.heap.size + 1 + 1, 0, none⟩) 1 1, .slice (some ⟨W.heap.size + 1 + 1 + 1, 0, none⟩) 3 3, .slice (some ⟨W.heap.size + 1 + 1 + 1 + 1, 0, none⟩) 4 4, .slice (some ⟨W.heap.size + 1 + 1 + 1 + 1 + 1, 0, none⟩) 2 2, .slice (some ⟨W.heap.size + 1 + 1 + 1 + 1 + 1 + 1, 0, none⟩) 2 2, .slice (some ⟨W.heap.size + 1 + 1 + 1 + 1 + 1 + 1 + 1, 0, none⟩) 3 3, .slice (some ⟨W.heap.size + 1 + 1 + 1 + 1 + 1 + 1 + 1 + 1, 0, none⟩) 4 4, .slice (some ⟨W.heap.size + 1 + 1 + 1 + 1 + 1 + 1 + 1 + 1 + 1, 0, none⟩) 4 4, .slice (some ⟨W.heap.size + 1 + 1 + 1 + 1 + 1 + 1 + 1 + 1 + 1 + 1, 0, none⟩) 2 2, .slice (some ⟨W.heap.size + 1 + 1 + 1 + 1 + 1 + 1 + 1 + 1 + 1 + 1 + 1, 0, none⟩) 4 4, .slice (some ⟨W.heap.size + 1 + 1 + 1 + 1 + 1 + 1 + 1 + 1 + 1 + 1 + 1 + 1, 0, none⟩) 6 6, .slice (some ⟨W.heap.size + 1 + 1 + 1 + 1 + 1 + 1 + 1 + 1 + 1 + 1 + 1 + 1 + 1, 0, none⟩) 3 3, .slice (some ⟨W.heap.size + 1 + 1 + 1 + 1 + 1 + 1 + 1 + 1 + 1 + 1 + 1 + 1 + 1 + 1, 0, none⟩) 4 4, .slice (some ⟨W.heap.size + 1 + 1 + 1 + 1 + 1 + 1 + 1 + 1 + 1 + 1 + 1 + 1 + 1 + 1 + 1, 0, none⟩) 3 3] 26) := ⟨_, rfl⟩
  have r := fun i => World.cell?_alloc_new w15 #[.slice (some ⟨W.heap.size, 0, none⟩) 2 2, .slice (some ⟨W.heap.size + 1, 0, none⟩) 3 3, .slice (some ⟨W.heap.size + 1 + 1, 0, none⟩) 1 1, .slice (some ⟨W.heap.size + 1 + 1 + 1, 0, none⟩) 3 3, .slice (some ⟨W.heap.size + 1 + 1 + 1 + 1, 0, none⟩) 4 4, .slice (some ⟨W.heap.size + 1 + 1 + 1 + 1 + 1, 0, none⟩) 2 2, .slice (some ⟨W.heap.size + 1 + 1 + 1 + 1 + 1 + 1, 0, none⟩) 2 2, .slice (some ⟨W.heap.size + 1 + 1 + 1 + 1 + 1 + 1 + 1, 0, none⟩) 3 3, .slice (some ⟨W.heap.size + 1 + 1 + 1 + 1 + 1 + 1 + 1 + 1, 0, none⟩) 4 4, .slice (some ⟨W.heap.size + 1 + 1 + 1 + 1 + 1 + 1 + 1 + 1 + 1, 0, none⟩) 4 4, .slice (some ⟨W.heap.size + 1 + 1 + 1 + 1 + 1 + 1 + 1 + 1 + 1 + 1, 0, none⟩) 2 2, .slice (some ⟨W.heap.size + 1 + 1 + 1 + 1 + 1 + 1 + 1 + 1 + 1 + 1 + 1, 0, none⟩) 4 4, .slice (some ⟨W.heap.size + 1 + 1 + 1 + 1 + 1 + 1 + 1 + 1 + 1 + 1 + 1 + 1, 0, none⟩) 6 6, .slice (some ⟨W.heap.size + 1 + 1 + 1 + 1 + 1 + 1 + 1 + 1 + 1 + 1 + 1 + 1 + 1, 0, none⟩) 3 3, .slice (some ⟨W.heap.size + 1 + 1 + 1 + 1 + 1 + 1 + 1 + 1 + 1 + 1 + 1 + 1 + 1 + 1, 0, none⟩) 4 4, .slice (some ⟨W.heap.size + 1 + 1 + 1 + 1 + 1 + 1 + 1 + 1 + 1 + 1 + 1 + 1 + 1 + 1 + 1, 0, none⟩) 3 3] 26 i
  rw [← e16, s16] at r
  replace c0 := blk_keep c0 (.cells #[.slice (some ⟨W.heap.size, 0, none⟩) 2 2, .slice (some ⟨W.heap.size + 1, 0, none⟩) 3 3, .slice (some ⟨W.heap.size + 1 + 1, 0, none⟩) 1 1, .slice (some ⟨W.heap.size + 1 + 1 + 1, 0, none⟩) 3 3, .slice (some ⟨W.heap.size + 1 + 1 + 1 + 1, 0, none⟩) 4 4, .slice (some ⟨W.heap.size + 1 + 1 + 1 + 1 + 1, 0, none⟩) 2 2, .slice (some ⟨W.heap.size + 1 + 1 + 1 + 1 + 1 + 1, 0, none⟩) 2 2, .slice (some ⟨W.heap.size + 1 + 1 + 1 + 1 + 1 + 1 + 1, 0, none⟩) 3 3, .slice (some ⟨W.heap.size + 1 + 1 + 1 + 1 + 1 + 1 + 1 + 1, 0, none⟩) 4 4, .slice (some ⟨W.heap.size + 1 + 1 + 1 + 1 + 1 + 1 + 1 + 1 + 1, 0, none⟩) 4 4, .slice (some ⟨W.heap.size + 1 + 1 + 1 + 1 + 1 + 1 + 1 + 1 + 1 + 1, 0, none⟩) 2 2, .slice (some ⟨W.heap.size + 1 + 1 + 1 + 1 + 1 + 1 + 1 + 1 + 1 + 1 + 1, 0, none⟩) 4 4, .slice (some ⟨W.heap.size + 1 + 1 + 1 + 1 + 1 + 1 + 1 + 1 + 1 + 1 + 1 + 1, 0, none⟩) 6 6, .slice (some ⟨W.heap.size + 1 + 1 + 1 + 1 + 1 + 1 + 1 + 1 + 1 + 1 + 1 + 1 + 1, 0, none⟩) 3 3, .slice (some ⟨W.heap.size + 1 + 1 + 1 + 1 + 1 + 1 + 1 + 1 + 1 + 1 + 1 + 1 + 1 + 1, 0, none⟩) 4 4, .slice (some ⟨W.heap.size + 1 + 1 + 1 + 1 + 1 + 1 + 1 + 1 + 1 + 1 + 1 + 1 + 1 + 1 + 1, 0, none⟩) 3 3] 26)
  rw [← e16] at c0
  replace c1 := blk_keep c1 (.cells #[.slice (some ⟨W.heap.size, 0, none⟩) 2 2, .slice (some ⟨W.heap.size + 1, 0, none⟩) 3 3, .slice (some ⟨W.heap.size + 1 + 1, 0, none⟩) 1 1, .slice (some ⟨W.heap.size + 1 + 1 + 1, 0, none⟩) 3 3, .slice (some ⟨W.heap.size + 1 + 1 + 1 + 1, 0, none⟩) 4 4, .slice (some ⟨W.heap.size + 1 + 1 + 1 + 1 + 1, 0, none⟩) 2 2, .slice (some ⟨W.heap.size + 1 + 1 + 1 + 1 + 1 + 1, 0, none⟩) 2 2, .slice (some ⟨W.heap.size + 1 + 1 + 1 + 1 + 1 + 1 + 1, 0, none⟩) 3 3, .slice (some ⟨W.heap.size + 1 + 1 + 1 + 1 + 1 + 1 + 1 + 1, 0, none⟩) 4 4, .slice (some ⟨W.heap.size + 1 + 1 + 1 + 1 + 1 + 1 + 1 + 1 + 1, 0, none⟩) 4 4, .slice (some ⟨W.heap.size + 1 + 1 + 1 + 1 + 1 + 1 + 1 + 1 + 1 + 1, 0, none⟩) 2 2, .slice (some ⟨W.heap.size + 1 + 1 + 1 + 1 + 1 + 1 + 1 + 1 + 1 + 1 + 1, 0, none⟩) 4 4, .slice (some ⟨W.heap.size + 1 + 1 + 1 + 1 + 1 + 1 + 1 + 1 + 1 + 1 + 1 + 1, 0, none⟩) 6 6, .slice (some ⟨W.heap.size + 1 + 1 + 1 + 1 + 1 + 1 + 1 + 1 + 1 + 1 + 1 + 1 + 1, 0, none⟩) 3 3, .slice (some ⟨W.heap.size + 1 + 1 + 1 + 1 + 1 + 1 + 1 + 1 + 1 + 1 + 1 + 1 + 1 + 1, 0, none⟩) 4 4, .slice (some ⟨W.heap.size + 1 + 1 + 1 + 1 + 1 + 1 + 1 + 1 + 1 + 1 + 1 + 1 + 1 + 1 + 1, 0, none⟩) 3 3] 26)
  rw [← e16] at c1
  replace c2 := blk_keep c2 (.cells #[.slice (some ⟨W.heap.size, 0, none⟩) 2 2, .slice (some ⟨W.heap.size + 1, 0, none⟩) 3 3, .slice (some ⟨W.heap.size + 1 + 1, 0, none⟩) 1 1, .slice (some ⟨W.heap.size + 1 + 1 + 1, 0, none⟩) 3 3, .slice (some ⟨W.heap.size + 1 + 1 + 1 + 1, 0, none⟩) 4 4, .slice (some ⟨W.heap.size + 1 + 1 + 1 + 1 + 1, 0, none⟩) 2 2, .slice (some ⟨W.heap.size + 1 + 1 + 1 + 1 + 1 + 1, 0, none⟩) 2 2, .slice (some ⟨W.heap.size + 1 + 1 + 1 + 1 + 1 + 1 + 1, 0, none⟩) 3 3, .slice (some ⟨W.heap.size + 1 + 1 + 1 + 1 + 1 + 1 + 1 + 1, 0, none⟩) 4 4, .slice (some ⟨W.heap.size + 1 + 1 + 1 + 1 + 1 + 1 + 1 + 1 + 1, 0, none⟩) 4 4, .slice (some ⟨W.heap.size + 1 + 1 + 1 + 1 + 1 + 1 + 1 + 1 + 1 + 1, 0, none⟩) 2 2, .slice (some ⟨W.heap.size + 1 + 1 + 1 + 1 + 1 + 1 + 1 + 1 + 1 + 1 + 1, 0, none⟩) 4 4, .slice (some ⟨W.heap.size + 1 + 1 + 1 + 1 + 1 + 1 + 1 + 1 + 1 + 1 + 1 + 1, 0, none⟩) 6 6, .slice (some ⟨W.heap.size + 1 + 1 + 1 + 1 + 1 + 1 + 1 + 1 + 1 + 1 + 1 + 1 + 1, 0, none⟩) 3 3, .slice (some ⟨W.heap.size + 1 + 1 + 1 + 1 + 1 + 1 + 1 + 1 + 1 + 1 + 1 + 1 + 1 + 1, 0, none⟩) 4 4, .slice (some ⟨W.heap.size + 1 + 1 + 1 + 1 + 1 + 1 + 1 + 1 + 1 + 1 + 1 + 1 + 1 + 1 + 1, 0, none⟩) 3 3] 26)
  rw [← e16] at c2
  replace c3 := blk_keep c3 (.cells #[.slice (some ⟨W.heap.size, 0, none⟩) 2 2, .slice (some ⟨W.heap.size + 1, 0, none⟩) 3 3, .slice (some ⟨W.heap.size + 1 + 1, 0, none⟩) 1 1, .slice (some ⟨W.heap.size + 1 + 1 + 1, 0, none⟩) 3 3, .slice (some ⟨W.heap.size + 1 + 1 + 1 + 1, 0, none⟩) 4 4, .slice (some ⟨W.heap.size + 1 + 1 + 1 + 1 + 1, 0, none⟩) 2 2, .slice (some ⟨W.heap.size + 1 + 1 + 1 + 1 + 1 + 1, 0, none⟩) 2 2, .slice (some ⟨W.heap.size + 1 + 1 + 1 + 1 + 1 + 1 + 1, 0, none⟩) 3 3, .slice (some ⟨W.heap.size + 1 + 1 + 1 + 1 + 1 + 1 + 1 + 1, 0, none⟩) 4 4, .slice (some ⟨W.heap.size + 1 + 1 + 1 + 1 + 1 + 1 + 1 + 1 + 1, 0, none⟩) 4 4, .slice (some ⟨W.heap.size + 1 + 1 + 1 + 1 + 1 + 1 + 1 + 1 + 1 + 1, 0, none⟩) 2 2, .slice (some ⟨W.heap.size + 1 + 1 + 1 + 1 + 1 + 1 + 1 + 1 + 1 + 1 + 1, 0, none⟩) 4 4, .slice (some ⟨W.heap.size + 1 + 1 + 1 + 1 + 1 + 1 + 1 + 1 + 1 + 1 + 1 + 1, 0, none⟩) 6 6, .slice (some ⟨W.heap.size + 1 + 1 + 1 + 1 + 1 + 1 + 1 + 1 + 1 + 1 + 1 + 1 + 1, 0, none⟩) 3 3, .slice (some ⟨W.heap.size + 1 + 1 + 1 + 1 + 1 + 1 + 1 + 1 + 1 + 1 + 1 + 1 + 1 + 1, 0, none⟩) 4 4, .slice (some ⟨W.heap.size + 1 + 1 + 1 + 1 + 1 + 1 + 1 + 1 + 1 + 1 + 1 + 1 + 1 + 1 + 1, 0, none⟩) 3 3] 26)
  rw [← e16] at c3
  replace c4 := blk_keep c4 (.cells #[.slice (some ⟨W.heap.size, 0, none⟩) 2 2, .slice (some ⟨W.heap.size + 1, 0, none⟩) 3 3, .slice (some ⟨W.heap.size + 1 + 1, 0, none⟩) 1 1, .slice (some ⟨W.heap.size + 1 + 1 + 1, 0, none⟩) 3 3, .slice (some ⟨W.heap.size + 1 + 1 + 1 + 1, 0, none⟩) 4 4, .slice (some ⟨W.heap.size + 1 + 1 + 1 + 1 + 1, 0, none⟩) 2 2, .slice (some ⟨W.heap.size + 1 + 1 + 1 + 1 + 1 + 1, 0, none⟩) 2 2, .slice (some ⟨W.heap.size + 1 + 1 + 1 + 1 + 1 + 1 + 1, 0, none⟩) 3 3, .slice (some ⟨W.heap.size + 1 + 1 + 1 + 1 + 1 + 1 + 1 + 1, 0, none⟩) 4 4, .slice (some ⟨W.heap.size + 1 + 1 + 1 + 1 + 1 + 1 + 1 + 1 + 1, 0, none⟩) 4 4, .slice (some ⟨W.heap.size + 1 + 1 + 1 + 1 + 1 + 1 + 1 + 1 + 1 + 1, 0, none⟩) 2 2, .slice (some ⟨W.heap.size + 1 + 1 + 1 + 1 + 1 + 1 + 1 + 1 + 1 + 1 + 1, 0, none⟩) 4 4, .slice (some ⟨W.heap.size + 1 + 1 + 1 + 1 + 1 + 1 + 1 + 1 + 1 + 1 + 1 + 1, 0, none⟩) 6 6, .slice (some ⟨W.heap.size + 1 + 1 + 1 + 1 + 1 + 1 + 1 + 1 + 1 + 1 + 1 + 1 + 1, 0, none⟩) 3 3, .slice (some ⟨W.heap.size + 1 + 1 + 1 + 1 + 1 + 1 + 1 + 1 + 1 + 1 + 1 + 1 + 1 + 1, 0, none⟩) 4 4, .slice (some ⟨W.heap.size + 1 + 1 + 1 + 1 + 1 + 1 + 1 + 1 + 1 + 1 + 1 + 1 + 1 + 1 + 1, 0, none⟩) 3 3] 26)
  rw [← e16] at c4
  replace c5 := blk_keep c5 (.cells #[.slice (some ⟨W.heap.size, 0, none⟩) 2 2, .slice (some ⟨W.heap.size + 1, 0, none⟩) 3 3, .slice (some ⟨W.heap.size + 1 + 1, 0, none⟩) 1 1, .slice (some ⟨W.heap.size + 1 + 1 + 1, 0, none⟩) 3 3, .slice (some ⟨W.heap.size + 1 + 1 + 1 + 1, 0, none⟩) 4 4, .slice (some ⟨W.heap.size + 1 + 1 + 1 + 1 + 1, 0, none⟩) 2 2, .slice (some ⟨W.heap.size + 1 + 1 + 1 + 1 + 1 + 1, 0, none⟩) 2 2, .slice (some ⟨W.heap.size + 1 + 1 + 1 + 1 + 1 + 1 + 1, 0, none⟩) 3 3, .slice (some ⟨W.heap.size + 1 + 1 + 1 + 1 + 1 + 1 + 1 + 1, 0, none⟩) 4 4, .slice (some ⟨W.heap.size + 1 + 1 + 1 + 1 + 1 + 1 + 1 + 1 + 1, 0, none⟩) 4 4, .slice (some ⟨W.heap.size + 1 + 1 + 1 + 1 + 1 + 1 + 1 + 1 + 1 + 1, 0, none⟩) 2 2, .slice (some ⟨W.heap.size + 1 + 1 + 1 + 1 + 1 + 1 + 1 + 1 + 1 + 1 + 1, 0, none⟩) 4 4, .slice (some ⟨W.heap.size + 1 + 1 + 1 + 1 + 1 + 1 + 1 + 1 + 1 + 1 + 1 + 1, 0, none⟩) 6 6, .slice (some ⟨W.heap.size + 1 + 1 + 1 + 1 + 1 + 1 + 1 + 1 + 1 + 1 + 1 + 1 + 1, 0, none⟩) 3 3, .slice (some ⟨W.heap.size + 1 + 1 + 1 + 1 + 1 + 1 + 1 + 1 + 1 + 1 + 1 + 1 + 1 + 1, 0, none⟩) 4 4, .slice (some ⟨W.heap.size + 1 + 1 + 1 + 1 + 1 + 1 + 1 + 1 + 1 + 1 + 1 + 1 + 1 + 1 + 1, 0, none⟩) 3 3] 26)
  rw [← e16] at c5
  replace c6 := blk_keep c6 (.cells #[.slice (some ⟨W.heap.size, 0, none⟩) 2 2, .slice (some ⟨W.heap.size + 1, 0, none⟩) 3 3, .slice (some ⟨W.heap.size + 1 + 1, 0, none⟩) 1 1, .slice (some ⟨W.heap.size + 1 + 1 + 1, 0, none⟩) 3 3, .slice (some ⟨W.heap.size + 1 + 1 + 1 + 1, 0, none⟩) 4 4, .slice (some ⟨W.heap.size + 1 + 1 + 1 + 1 + 1, 0, none⟩) 2 2, .slice (some ⟨W.heap.size + 1 + 1 + 1 + 1 + 1 + 1, 0, none⟩) 2 2, .slice (some ⟨W.heap.size + 1 + 1 + 1 + 1 + 1 + 1 + 1, 0, none⟩) 3 3, .slice (some ⟨W.heap.size + 1 + 1 + 1 + 1 + 1 + 1 + 1 + 1, 0, none⟩) 4 4, .slice (some ⟨W.heap.size + 1 + 1 + 1 + 1 + 1 + 1 + 1 + 1 + 1, 0, none⟩) 4 4, .slice (some ⟨W.heap.size + 1 + 1 + 1 + 1 + 1 + 1 + 1 + 1 + 1 + 1, 0, none⟩) 2 2, .slice (some ⟨W.heap.size + 1 + 1 + 1 + 1 + 1 + 1 + 1 + 1 + 1 + 1 + 1, 0, none⟩) 4 4, .slice (some ⟨W.heap.size + 1 + 1 + 1 + 1 + 1 + 1 + 1 + 1 + 1 + 1 + 1 + 1, 0, none⟩) 6 6, .slice (some ⟨W.heap.size + 1 + 1 + 1 + 1 + 1 + 1 + 1 + 1 + 1 + 1 + 1 + 1 + 1, 0, none⟩) 3 3, .slice (some ⟨W.heap.size + 1 + 1 + 1 + 1 + 1 + 1 + 1 + 1 + 1 + 1 + 1 + 1 + 1 + 1, 0, none⟩) 4 4, .slice (some ⟨W.heap.size + 1 + 1 + 1 + 1 + 1 + 1 + 1 + 1 + 1 + 1 + 1 + 1 + 1 + 1 + 1, 0, none⟩) 3 3] 26)
  rw [← e16] at c6
  replace c7 := blk_keep c7 (.cells #[.slice (some ⟨W.heap.size, 0, none⟩) 2 2, .slice (some ⟨W.heap.size + 1, 0, none⟩) 3 3, .slice (some ⟨W.heap.size + 1 + 1, 0, none⟩) 1 1, .slice (some ⟨W.heap.size + 1 + 1 + 1, 0, none⟩) 3 3, .slice (some ⟨W.heap.size + 1 + 1 + 1 + 1, 0, none⟩) 4 4, .slice (some ⟨W.heap.size + 1 + 1 + 1 + 1 + 1, 0, none⟩) 2 2, .slice (some ⟨W.heap.size + 1 + 1 + 1 + 1 + 1 + 1, 0, none⟩) 2 2, .slice (some ⟨W.heap.size + 1 + 1 + 1 + 1 + 1 + 1 + 1, 0, none⟩) 3 3, .slice (some ⟨W.heap.size + 1 + 1 + 1 + 1 + 1 + 1 + 1 + 1, 0, none⟩) 4 4, .slice (some ⟨W.heap.size + 1 + 1 + 1 + 1 + 1 + 1 + 1 + 1 + 1, 0, none⟩) 4 4, .slice (some ⟨W.heap.size + 1 + 1 + 1 + 1 + 1 + 1 + 1 + 1 + 1 + 1, 0, none⟩) 2 2, .slice (some ⟨W.heap.size + 1 + 1 + 1 + 1 + 1 + 1 + 1 + 1 + 1 + 1 + 1, 0, none⟩) 4 4, .slice (some ⟨W.heap.size + 1 + 1 + 1 + 1 + 1 + 1 + 1 + 1 + 1 + 1 + 1 + 1, 0, none⟩) 6 6, .slice (some ⟨W.heap.size + 1 + 1 + 1 + 1 + 1 + 1 + 1 + 1 + 1 + 1 + 1 + 1 + 1, 0, none⟩) 3 3, .slice (some ⟨W.heap.size + 1 + 1 + 1 + 1 + 1 + 1 + 1 + 1 + 1 + 1 + 1 + 1 + 1 + 1, 0, none⟩) 4 4, .slice (some ⟨W.heap.size + 1 + 1 + 1 + 1 + 1 + 1 + 1 + 1 + 1 + 1 + 1 + 1 + 1 + 1 + 1, 0, none⟩) 3 3] 26)
  rw [← e16] at c7
  replace c8 := blk_keep c8 (.cells #[.slice (some ⟨W.heap.size, 0, none⟩) 2 2, .slice (some ⟨W.heap.size + 1, 0, none⟩) 3 3, .slice (some ⟨W.heap.size + 1 + 1, 0, none⟩) 1 1, .slice (some ⟨W.heap.size + 1 + 1 + 1, 0, none⟩) 3 3, .slice (some ⟨W.heap.size + 1 + 1 + 1 + 1, 0, none⟩) 4 4, .slice (some ⟨W.heap.size + 1 + 1 + 1 + 1 + 1, 0, none⟩) 2 2, .slice (some ⟨W.heap.size + 1 + 1 + 1 + 1 + 1 + 1, 0, none⟩) 2 2, .slice (some ⟨W.heap.size + 1 + 1 + 1 + 1 + 1 + 1 + 1, 0, none⟩) 3 3, .slice (some ⟨W.heap.size + 1 + 1 + 1 + 1 + 1 + 1 + 1 + 1, 0, none⟩) 4 4, .slice (some ⟨W.heap.size + 1 + 1 + 1 + 1 + 1 + 1 + 1 + 1 + 1, 0, none⟩) 4 4, .slice (some ⟨W.heap.size + 1 + 1 + 1 + 1 + 1 + 1 + 1 + 1 + 1 + 1, 0, none⟩) 2 2, .slice (some ⟨W.heap.size + 1 + 1 + 1 + 1 + 1 + 1 + 1 + 1 + 1 + 1 + 1, 0, none⟩) 4 4, .slice (some ⟨W.heap.size + 1 + 1 + 1 + 1 + 1 + 1 + 1 + 1 + 1 + 1 + 1 + 1, 0, none⟩) 6 6, .slice (some ⟨W.heap.size + 1 + 1 + 1 + 1 + 1 + 1 + 1 + 1 + 1 + 1 + 1 + 1 + 1, 0, none⟩) 3 3, .slice (some ⟨W.heap.size + 1 + 1 + 1 + 1 + 1 + 1 + 1 + 1 + 1 + 1 + 1 + 1 + 1 + 1, 0, none⟩) 4 4, .slice (some ⟨W.heap.size + 1 + 1 + 1 + 1 + 1 + 1 + 1 + 1 + 1 + 1 + 1 + 1 + 1 + 1 + 1, 0, none⟩) 3 3] 26)
  rw [← e16] at c8
  replace c9 := blk_keep c9 (.cells #[.slice (some ⟨W.heap.size, 0, none⟩) 2 2, .slice (some ⟨W.heap.size + 1, 0, none⟩) 3 3, .slice (some ⟨W.heap.size + 1 + 1, 0, none⟩) 1 1, .slice (some ⟨W.heap.size + 1 + 1 + 1, 0, none⟩) 3 3, .slice (some ⟨W.heap.size + 1 + 1 + 1 + 1, 0, none⟩) 4 4, .slice (some ⟨W.heap.size + 1 + 1 + 1 + 1 + 1, 0, none⟩) 2 2, .slice (some ⟨W.heap.size + 1 + 1 + 1 + 1 + 1 + 1, 0, none⟩) 2 2, .slice (some ⟨W.heap.size + 1 + 1 + 1 + 1 + 1 + 1 + 1, 0, none⟩) 3 3, .slice (some ⟨W.heap.size + 1 + 1 + 1 + 1 + 1 + 1 + 1 + 1, 0, none⟩) 4 4, .slice (some ⟨W.heap.size + 1 + 1 + 1 + 1 + 1 + 1 + 1 + 1 + 1, 0, none⟩) 4 4, .slice (some ⟨W.heap.size + 1 + 1 + 1 + 1 + 1 + 1 + 1 + 1 + 1 + 1, 0, none⟩) 2 2, .slice (some ⟨W.heap.size + 1 + 1 + 1 + 1 + 1 + 1 + 1 + 1 + 1 + 1 + 1, 0, none⟩) 4 4, .slice (some ⟨W.heap.size + 1 + 1 + 1 + 1 + 1 + 1 + 1 + 1 + 1 + 1 + 1 + 1, 0, none⟩) 6 6, .slice (some ⟨W.heap.size + 1 + 1 + 1 + 1 + 1 + 1 + 1 + 1 + 1 + 1 + 1 + 1 + 1, 0, none⟩) 3 3, .slice (some ⟨W.heap.size + 1 + 1 + 1 + 1 + 1 + 1 + 1 + 1 + 1 + 1 + 1 + 1 + 1 + 1, 0, none⟩) 4 4, .slice (some ⟨W.heap.size + 1 + 1 + 1 + 1 + 1 + 1 + 1 + 1 + 1 + 1 + 1 + 1 + 1 + 1 + 1, 0, none⟩) 3 3] 26)
  rw [← e16] at c9
  replace c10 := blk_keep c10 (.cells #[.slice (some ⟨W.heap.size, 0, none⟩) 2 2, .slice (some ⟨W.heap.size + 1, 0, none⟩) 3 3, .slice (some ⟨W.heap.size + 1 + 1, 0, none⟩) 1 1, .slice (some ⟨W.heap.size + 1 + 1 + 1, 0, none⟩) 3 3, .slice (some ⟨W.heap.size + 1 + 1 + 1 + 1, 0, none⟩) 4 4, .slice (some ⟨W.heap.size + 1 + 1 + 1 + 1 + 1, 0, none⟩) 2 2, .slice (some ⟨W.heap.size + 1 + 1 + 1 + 1 + 1 + 1, 0, none⟩) 2 2, .slice (some ⟨W.heap.size + 1 + 1 + 1 + 1 + 1 + 1 + 1, 0, none⟩) 3 3, .slice (some ⟨W.heap.size + 1 + 1 + 1 + 1 + 1 + 1 + 1 + 1, 0, none⟩) 4 4, .slice (some ⟨W.heap.size + 1 + 1 + 1 + 1 + 1 + 1 + 1 + 1 + 1, 0, none⟩) 4 4, .slice (some ⟨W.heap.size + 1 + 1 + 1 + 1 + 1 + 1 + 1 + 1 + 1 + 1, 0, none⟩) 2 2, .slice (some ⟨W.heap.size + 1 + 1 + 1 + 1 + 1 + 1 + 1 + 1 + 1 + 1 + 1, 0, none⟩) 4 4, .slice (some ⟨W.heap.size + 1 + 1 + 1 + 1 + 1 + 1 + 1 + 1 + 1 + 1 + 1 + 1, 0, none⟩) 6 6, .slice (some ⟨W.heap.size + 1 + 1 + 1 + 1 + 1 + 1 + 1 + 1 + 1 + 1 + 1 + 1 + 1, 0, none⟩) 3 3, .slice (some ⟨W.heap.size + 1 + 1 + 1 + 1 + 1 + 1 + 1 + 1 + 1 + 1 + 1 + 1 + 1 + 1, 0, none⟩) 4 4, .slice (some ⟨W.heap.size + 1 + 1 + 1 + 1 + 1 + 1 + 1 + 1 + 1 + 1 + 1 + 1 + 1 + 1 + 1, 0, none⟩) 3 3] 26)
  rw [← e16] at c10
  replace c11 := blk_keep c11 (.cells #[.slice (some ⟨W.heap.size, 0, none⟩) 2 2, .slice (some ⟨W.heap.size + 1, 0, none⟩) 3 3, .slice (some ⟨W.heap.size + 1 + 1, 0, none⟩) 1 1, .slice (some ⟨W.heap.size + 1 + 1 + 1, 0, none⟩) 3 3, .slice (some ⟨W.heap.size + 1 + 1 + 1 + 1, 0, none⟩) 4 4, .slice (some ⟨W.heap.size + 1 + 1 + 1 + 1 + 1, 0, none⟩) 2 2, .slice (some ⟨W.heap.size + 1 + 1 + 1 + 1 + 1 + 1, 0, none⟩) 2 2, .slice (some ⟨W.heap.size + 1 + 1 + 1 + 1 + 1 + 1 + 1, 0, none⟩) 3 3, .slice (some ⟨W.heap.size + 1 + 1 + 1 + 1 + 1 + 1 + 1 + 1, 0, none⟩) 4 4, .slice (some ⟨W.heap.size + 1 + 1 + 1 + 1 + 1 + 1 + 1 + 1 + 1, 0, none⟩) 4 4, .slice (some ⟨W.heap.size + 1 + 1 + 1 + 1 + 1 + 1 + 1 + 1 + 1 + 1, 0, none⟩) 2 2, .slice (some ⟨W.heap.size + 1 + 1 + 1 + 1 + 1 + 1 + 1 + 1 + 1 + 1 + 1, 0, none⟩) 4 4, .slice (some ⟨W.heap.size + 1 + 1 + 1 + 1 + 1 + 1 + 1 + 1 + 1 + 1 + 1 + 1, 0, none⟩) 6 6, .slice (some ⟨W.heap.size + 1 + 1 + 1 + 1 + 1 + 1 + 1 + 1 + 1 + 1 + 1 + 1 + 1, 0, none⟩) 3 3, .slice (some ⟨W.heap.size + 1 + 1 + 1 + 1 + 1 + 1 + 1 + 1 + 1 + 1 + 1 + 1 + 1 + 1, 0, none⟩) 4 4, .slice (some ⟨W.heap.size + 1 + 1 + 1 + 1 + 1 + 1 + 1 + 1 + 1 + 1 + 1 + 1 + 1 + 1 + 1, 0, none⟩) 3 3] 26)
  rw [← e16] at c11
  replace c12 := blk_keep c12 (.cells #[.slice (some ⟨W.heap.size, 0, none⟩) 2 2, .slice (some ⟨W.heap.size + 1, 0, none⟩) 3 3, .slice (some ⟨W.heap.size + 1 + 1, 0, none⟩) 1 1, .slice (some ⟨W.heap.size + 1 + 1 + 1, 0, none⟩) 3 3, .slice (some ⟨W.heap.size + 1 + 1 + 1 + 1, 0, none⟩) 4 4, .slice (some ⟨W.heap.size + 1 + 1 + 1 + 1 + 1, 0, none⟩) 2 2, .slice (some ⟨W.heap.size + 1 + 1 + 1 + 1 + 1 + 1, 0, none⟩) 2 2, .slice (some ⟨W.heap.size + 1 + 1 + 1 + 1 + 1 + 1 + 1, 0, none⟩) 3 3, .slice (some ⟨W.heap.size + 1 + 1 + 1 + 1 + 1 + 1 + 1 + 1, 0, none⟩) 4 4, .slice (some ⟨W.heap.size + 1 + 1 + 1 + 1 + 1 + 1 + 1 + 1 + 1, 0, none⟩) 4 4, .slice (some ⟨W.heap.size + 1 + 1 + 1 + 1 + 1 + 1 + 1 + 1 + 1 + 1, 0, none⟩) 2 2, .slice (some ⟨W.heap.size + 1 + 1 + 1 + 1 + 1 + 1 + 1 + 1 + 1 + 1 + 1, 0, none⟩) 4 4, .slice (some ⟨W.heap.size + 1 + 1 + 1 + 1 + 1 + 1 + 1 + 1 + 1 + 1 + 1 + 1, 0, none⟩) 6 6, .slice (some ⟨W.heap.size + 1 + 1 + 1 + 1 + 1 + 1 + 1 + 1 + 1 + 1 + 1 + 1 + 1, 0, none⟩) 3 3, .slice (some ⟨W.heap.size + 1 + 1 + 1 + 1 + 1 + 1 + 1 + 1 + 1 + 1 + 1 + 1 + 1 + 1, 0, none⟩) 4 4, .slice (some ⟨W.heap.size + 1 + 1 + 1 + 1 + 1 + 1 + 1 + 1 + 1 + 1 + 1 + 1 + 1 + 1 + 1, 0, none⟩) 3 3] 26)
  rw [← e16] at c12
  replace c13 := blk_keep c13 (.cells #[.slice (some ⟨W.heap.size, 0, none⟩) 2 2, .slice (some ⟨W.heap.size + 1, 0, none⟩) 3 3, .slice (some ⟨W.heap.size + 1 + 1, 0, none⟩) 1 1, .slice (some ⟨W.heap.size + 1 + 1 + 1, 0, none⟩) 3 3, .slice (some ⟨W.heap.size + 1 + 1 + 1 + 1, 0, none⟩) 4 4, .slice (some ⟨W.heap.size + 1 + 1 + 1 + 1 + 1, 0, none⟩) 2 2, .slice (some ⟨W.heap.size + 1 + 1 + 1 + 1 + 1 + 1, 0, none⟩) 2 2, .slice (some ⟨W.heap.size + 1 + 1 + 1 + 1 + 1 + 1 + 1, 0, none⟩) 3 3, .slice (some ⟨W.heap.size + 1 + 1 + 1 + 1 + 1 + 1 + 1 + 1, 0, none⟩) 4 4, .slice (some ⟨W.heap.size + 1 + 1 + 1 + 1 + 1 + 1 + 1 + 1 + 1, 0, none⟩) 4 4, .slice (some ⟨W.heap.size + 1 + 1 + 1 + 1 + 1 + 1 + 1 + 1 + 1 + 1, 0, none⟩) 2 2, .slice (some ⟨W.heap.size + 1 + 1 + 1 + 1 + 1 + 1 + 1 + 1 + 1 + 1 + 1, 0, none⟩) 4 4, .slice (some ⟨W.heap.size + 1 + 1 + 1 + 1 + 1 + 1 + 1 + 1 + 1 + 1 + 1 + 1, 0, none⟩) 6 6, .slice (some ⟨W.heap.size + 1 + 1 + 1 + 1 + 1 + 1 + 1 + 1 + 1 + 1 + 1 + 1 + 1, 0, none⟩) 3 3, .slice (some ⟨W.heap.size + 1 + 1 + 1 + 1 + 1 + 1 + 1 + 1 + 1 + 1 + 1 + 1 + 1 + 1, 0, none⟩) 4 4, .slice (some ⟨W.heap.size + 1 + 1 + 1 + 1 + 1 + 1 + 1 + 1 + 1 + 1 + 1 + 1 + 1 + 1 + 1, 0, none⟩) 3 3] 26)
  rw [← e16] at c13
  replace c14 := blk_keep c14 (.cells #[.slice (some ⟨W.heap.size, 0, none⟩) 2 2, .slice (some ⟨W.heap.size + 1, 0, none⟩) 3 3, .slice (some ⟨W.heap.size + 1 + 1, 0, none⟩) 1 1, .slice (some ⟨W.heap.size + 1 + 1 + 1, 0, none⟩) 3 3, .slice (some ⟨W.heap.size + 1 + 1 + 1 + 1, 0, none⟩) 4 4, .slice (some ⟨W.heap.size + 1 + 1 + 1 + 1 + 1, 0, none⟩) 2 2, .slice (some ⟨W.heap.size + 1 + 1 + 1 + 1 + 1 + 1, 0, none⟩) 2 2, .slice (some ⟨W.heap.size + 1 + 1 + 1 + 1 + 1 + 1 + 1, 0, none⟩) 3 3, .slice (some ⟨W.heap.size + 1 + 1 + 1 + 1 + 1 + 1 + 1 + 1, 0, none⟩) 4 4, .slice (some ⟨W.heap.size + 1 + 1 + 1 + 1 + 1 + 1 + 1 + 1 + 1, 0, none⟩) 4 4, .slice (some ⟨W.heap.size + 1 + 1 + 1 + 1 + 1 + 1 + 1 + 1 + 1 + 1, 0, none⟩) 2 2, .slice (some ⟨W.heap.size + 1 + 1 + 1 + 1 + 1 + 1 + 1 + 1 + 1 + 1 + 1, 0, none⟩) 4 4, .slice (some ⟨W.heap.size + 1 + 1 + 1 + 1 + 1 + 1 + 1 + 1 + 1 + 1 + 1 + 1, 0, none⟩) 6 6, .slice (some ⟨W.heap.size + 1 + 1 + 1 + 1 + 1 + 1 + 1 + 1 + 1 + 1 + 1 + 1 + 1, 0, none⟩) 3 3, .slice (some ⟨W.heap.size + 1 + 1 + 1 + 1 + 1 + 1 + 1 + 1 + 1 + 1 + 1 + 1 + 1 + 1, 0, none⟩) 4 4, .slice (some ⟨W.heap.size + 1 + 1 + 1 + 1 + 1 + 1 + 1 + 1 + 1 + 1 + 1 + 1 + 1 + 1 + 1, 0, none⟩) 3 3] 26)
  rw [← e16] at c14
  replace c15 := blk_keep c15 (.cells #[.slice (some ⟨W.heap.size, 0, none⟩) 2 2, .slice (some ⟨W.heap.size + 1, 0, none⟩) 3 3, .slice (some ⟨W.heap.size + 1 + 1, 0, none⟩) 1 1, .slice (some ⟨W.heap.size + 1 + 1 + 1, 0, none⟩) 3 3, .slice (some ⟨W.heap.size + 1 + 1 + 1 + 1, 0, none⟩) 4 4, .slice (some ⟨W.heap.size + 1 + 1 + 1 + 1 + 1, 0, none⟩) 2 2, .slice (some ⟨W.heap.size + 1 + 1 + 1 + 1 + 1 + 1, 0, none⟩) 2 2, .slice (some ⟨W.heap.size + 1 + 1 + 1 + 1 + 1 + 1 + 1, 0, none⟩) 3 3, .slice (some ⟨W.heap.size + 1 + 1 + 1 + 1 + 1 + 1 + 1 + 1, 0, none⟩) 4 4, .slice (some ⟨W.heap.size + 1 + 1 + 1 + 1 + 1 + 1 + 1 + 1 + 1, 0, none⟩) 4 4, .slice (some ⟨W.heap.size + 1 + 1 + 1 + 1 + 1 + 1 + 1 + 1 + 1 + 1, 0, none⟩) 2 2, .slice (some ⟨W.heap.size + 1 + 1 + 1 + 1 + 1 + 1 + 1 + 1 + 1 + 1 + 1, 0, none⟩) 4 4, .slice (some ⟨W.heap.size + 1 + 1 + 1 + 1 + 1 + 1 + 1 + 1 + 1 + 1 + 1 + 1, 0, none⟩) 6 6, .slice (some ⟨W.heap.size + 1 + 1 + 1 + 1 + 1 + 1 + 1 + 1 + 1 + 1 + 1 + 1 + 1, 0, none⟩) 3 3, .slice (some ⟨W.heap.size + 1 + 1 + 1 + 1 + 1 + 1 + 1 + 1 + 1 + 1 + 1 + 1 + 1 + 1, 0, none⟩) 4 4, .slice (some ⟨W.heap.size + 1 + 1 + 1 + 1 + 1 + 1 + 1 + 1 + 1 + 1 + 1 + 1 + 1 + 1 + 1, 0, none⟩) 3 3] 26)
  rw [← e16] at c15
  rw [← e16]
  refine ⟨fun i hi => ?_, fun i hi => ?_⟩
  · refine (r i).trans ?_
    have : i = 0 ∨ i = 1 ∨ i = 2 ∨ i = 3 ∨ i = 4 ∨ i = 5 ∨ i = 6 ∨ i = 7 ∨ i = 8 ∨ i = 9 ∨ i = 10 ∨ i = 11 ∨ i = 12 ∨ i = 13 ∨ i = 14 ∨ i = 15 := by omega
    rcases this with rfl | rfl | rfl | rfl | rfl | rfl | rfl | rfl | rfl | rfl | rfl | rfl | rfl | rfl | rfl | rfl <;> rfl
  · have : i = 0 ∨ i = 1 ∨ i = 2 ∨ i = 3 ∨ i = 4 ∨ i = 5 ∨ i = 6 ∨ i = 7 ∨ i = 8 ∨ i = 9 ∨ i = 10 ∨ i = 11 ∨ i = 12 ∨ i = 13 ∨ i = 14 ∨ i = 15 := by omega
    rcases this with rfl | rfl | rfl | rfl | rfl | rfl | rfl | rfl | rfl | rfl | rfl | rfl | rfl | rfl | rfl | rfl
    · exact c0
    · exact c1
    · exact c2
    · exact c3
    · exact c4
    · exact c5
    · exact c6
    · exact c7
    · exact c8
    · exact c9
    · exact c10
    · exact c11
    · exact c12
    · exact c13
    · exact c14
    · exact c15
theorem lib_below (W : World) (D E B K R : Int) : Below W.heap.size W (((((((((((((((((W.alloc (.cells #[.int .i64 1, .int .i64 D, .int .i64 3, .int .i64 0] 41)).alloc (.cells #[.int .i64 1, .int .i64 D, .int .i64 4, .int .i64 0, .int .i64 6, .int .i64 0] 41)).alloc (.cells #[.int .i64 2, .int .i64 D] 41)).alloc (.cells #[.int .i64 2, .int .i64 D, .int .i64 4, .int .i64 0, .int .i64 6, .int .i64 0] 41)).alloc (.cells #[.int .i64 1, .int .i64 D, .int .i64 4, .int .i64 0, .int .i64 6, .int .i64 0, .int .i64 1, .int .i64 D] 41)).alloc (.cells #[.int .i64 1, .int .i64 D, .int .i64 1, .int .i64 E] 41)).alloc (.cells #[.int .i64 1, .int .i64 D, .int .i64 7, .int .i64 D] 41)).alloc (.cells #[.int .i64 1, .int .i64 D, .int .i64 3, .int .i64 0, .int .i64 8, .int .i64 K] 41)).alloc (.cells #[.int .i64 9, .int .i64 R, .int .i64 1, .int .i64 D, .int .i64 1, .int .i64 D, .int .i64 10, .int .i64 R] 41)).alloc (.cells #[.int .i64 1, .int .i64 D, .int .i64 5, .int .i64 0, .int .i64 1, .int .i64 D, .int .i64 3, .int .i64 0] 41)).alloc (.cells #[.int .i64 10, .int .i64 R, .int .i64 1, .int .i64 D] 41)).alloc (.cells #[.int .i64 1, .int .i64 D, .int .i64 4, .int .i64 0, .int .i64 6, .int .i64 0, .int .i64 1, .int .i64 B] 41)).alloc (.cells #[.int .i64 1, .int .i64 D, .int .i64 4, .int .i64 0, .int .i64 6, .int .i64 0, .int .i64 1, .int .i64 E, .int .i64 4, .int .i64 0, .int .i64 6, .int .i64 0] 41)).alloc (.cells #[.int .i64 2, .int .i64 D, .int .i64 5, .int .i64 0, .int .i64 1, .int .i64 D] 41)).alloc (.cells #[.int .i64 1, .int .i64 D, .int .i64 4, .int .i64 0, .int .i64 6, .int .i64 0, .int .i64 8, .int .i64 K] 41)).alloc (.cells #[.int .i64 1, .int .i64 D, .int .i64 7, .int .i64 D, .int .i64 1, .int .i64 E] 41)).alloc (.cells #[.slice (some ⟨W.heap.size, 0, none⟩) 2 2, .slice (some ⟨W.heap.size + 1, 0, none⟩) 3 3, .slice (some ⟨W.heap.size + 1 + 1, 0, none⟩) 1 1, .slice (some ⟨W.heap.size + 1 + 1 + 1, 0, none⟩) 3 3, .slice (some ⟨W.heap.size + 1 + 1 + 1 + 1, 0, none⟩) 4 4, .slice (some ⟨W.heap.size + 1 + 1 + 1 + 1 + 1, 0, none⟩) 2 2, .slice (some ⟨W.heap.size + 1 + 1 + 1 + 1 + 1 + 1, 0, none⟩) 2 2, .slice (some ⟨W.heap.size + 1 + 1 + 1 + 1 + 1 + 1 + 1, 0, none⟩) 3 3, .slice (some ⟨W.heap.size + 1 + 1 + 1 + 1 + 1 + 1 + 1 + 1, 0, none⟩) 4 4, .slice (some ⟨W.heap.size + 1 + 1 + 1 + 1 + 1 + 1 + 1 + 1 + 1, 0, none⟩) 4 4, .slice (some ⟨W.heap.size + 1 + 1 + 1 + 1 + 1 + 1 + 1 + 1 + 1 + 1, 0, none⟩) 2 2, .slice (some ⟨W.heap.size + 1 + 1 + 1 + 1 + 1 + 1 + 1 + 1 + 1 + 1 + 1, 0, none⟩) 4 4, .slice (some ⟨W.heap.size + 1 + 1 + 1 + 1 + 1 + 1 + 1 + 1 + 1 + 1 + 1 + 1, 0, none⟩) 6 6, .slice (some ⟨W.heap.size + 1 + 1 + 1 + 1 + 1 + 1 + 1 + 1 + 1 + 1 + 1 + 1 + 1, 0, none⟩) 3 3, .slice (some ⟨W.heap.size + 1 + 1 + 1 + 1 + 1 + 1 + 1 + 1 + 1 + 1 + 1 + 1 + 1 + 1, 0, none⟩) 4 4, .slice (some ⟨W.heap.size + 1 + 1 + 1 + 1 + 1 + 1 + 1 + 1 + 1 + 1 + 1 + 1 + 1 + 1 + 1, 0, none⟩) 3 3] 26)) := below_alloc (below_alloc (below_alloc (below_alloc (below_alloc (below_alloc (below_alloc (below_alloc (below_alloc (below_alloc (below_alloc (below_alloc (below_alloc (below_alloc (below_alloc (below_alloc (below_alloc (Below.refl _ _) _) _) _) _) _) _) _) _) _) _) _) _) _) _) _) _) _
theorem lib_small (D E B K R : Int) (i : Nat) : ((libL D E B K R)[i]?.getD []).length ≤ 6 := by
  by_cases h : i < 16
  · have : i = 0 ∨ i = 1 ∨ i = 2 ∨ i = 3 ∨ i = 4 ∨ i = 5 ∨ i = 6 ∨ i = 7 ∨ i = 8 ∨ i = 9 ∨ i = 10 ∨ i = 11 ∨ i = 12 ∨ i = 13 ∨ i = 14 ∨ i = 15 := by omega
    rcases this with rfl | rfl | rfl | rfl | rfl | rfl | rfl | rfl | rfl | rfl | rfl | rfl | rfl | rfl | rfl | rfl <;> simp [libL]
  · have : (libL D E B K R)[i]? = none := by simp [libL]; omega
    rw [this]; simp
theorem lt_up1 {b n : Nat} (h : b < n) : b < n + 1 := by omega
theorem lt_up2 {b n : Nat} (h : b < n) : b < n + 1 + 1 := by omega
theorem lt_up3 {b n : Nat} (h : b < n) : b < n + 1 + 1 + 1 := by omega
theorem lt_up4 {b n : Nat} (h : b < n) : b < n + 1 + 1 + 1 + 1 := by omega
theorem lt_up5 {b n : Nat} (h : b < n) : b < n + 1 + 1 + 1 + 1 + 1 := by omega
theorem lt_up6 {b n : Nat} (h : b < n) : b < n + 1 + 1 + 1 + 1 + 1 + 1 := by omega
theorem lt_up7 {b n : Nat} (h : b < n) : b < n + 1 + 1 + 1 + 1 + 1 + 1 + 1 := by omega
theorem lt_up8 {b n : Nat} (h : b < n) : b < n + 1 + 1 + 1 + 1 + 1 + 1 + 1 + 1 := by omega
theorem lt_up9 {b n : Nat} (h : b < n) : b < n + 1 + 1 + 1 + 1 + 1 + 1 + 1 + 1 + 1 := by omega
theorem lt_up10 {b n : Nat} (h : b < n) : b < n + 1 + 1 + 1 + 1 + 1 + 1 + 1 + 1 + 1 + 1 := by omega
theorem lt_up11 {b n : Nat} (h : b < n) : b < n + 1 + 1 + 1 + 1 + 1 + 1 + 1 + 1 + 1 + 1 + 1 := by omega
theorem lt_up12 {b n : Nat} (h : b < n) : b < n + 1 + 1 + 1 + 1 + 1 + 1 + 1 + 1 + 1 + 1 + 1 + 1 := by omega
theorem lt_up13 {b n : Nat} (h : b < n) : b < n + 1 + 1 + 1 + 1 + 1 + 1 + 1 + 1 + 1 + 1 + 1 + 1 + 1 := by omega
theorem lt_up14 {b n : Nat} (h : b < n) : b < n + 1 + 1 + 1 + 1 + 1 + 1 + 1 + 1 + 1 + 1 + 1 + 1 + 1 + 1 := by omega
theorem lt_up15 {b n : Nat} (h : b < n) : b < n + 1 + 1 + 1 + 1 + 1 + 1 + 1 + 1 + 1 + 1 + 1 + 1 + 1 + 1 + 1 := by omega
theorem lt_up16 {b n : Nat} (h : b < n) : b < n + 1 + 1 + 1 + 1 + 1 + 1 + 1 + 1 + 1 + 1 + 1 + 1 + 1 + 1 + 1 + 1 := by omega
theorem lt_up17 {b n : Nat} (h : b < n) : b < n + 1 + 1 + 1 + 1 + 1 + 1 + 1 + 1 + 1 + 1 + 1 + 1 + 1 + 1 + 1 + 1 + 1 := by omega
attribute [local go_sem] lt_up2 lt_up3 lt_up4 lt_up5 lt_up6 lt_up7 lt_up8 lt_up9 lt_up10 lt_up11 lt_up12 lt_up13 lt_up14 lt_up15 lt_up16 lt_up17
set_option maxRecDepth 100000 in
set_option maxHeartbeats 4000000 in
theorem lib_any (l : List Nat) (a : Option Addr) (c N : Nat) (w : World) (hN : N ≤ w.heap.size) (hI : U8s N w a l) :
    Calls Tryz.prog 11 #[.slice a l.length c] w fun e w' => ∃ v, e = .returned v ∧ OwnStp w.heap.size w' v (libS l) ∧ Below w.heap.size w w' := by
  unfold libS
  have A0 := Lib.hid (fun W (h : U8s N W a l) => at_any l a c N 0 W (by omega) h)
  have A1 := Lib.hid (at_any l a c N 1 w (by omega) hI)
  have A2 := Lib.hid (at_any l a c N 2 w (by omega) hI)
  have A3 := Lib.hid (at_any l a c N 3 w (by omega) hI)
  have A4 := Lib.hid (at_any l a c N 4 w (by omega) hI)
  have z0 := hI.1 0
  have z1 := hI.1 1
  have z2 := hI.1 2
  have z3 := hI.1 3
  have z4 := hI.1 4
  have HI := Lib.hid hI
  clear hI
  generalize l[0]?.getD 0 = x0 at *
  generalize l[1]?.getD 0 = x1 at *
  generalize l[2]?.getD 0 = x2 at *
  generalize l[3]?.getD 0 = x3 at *
  generalize l[4]?.getD 0 = x4 at *
  obtain ⟨i, hi⟩ : ∃ i, i = x0 % 16 := ⟨_, rfl⟩
  have hi16 : i < 16 := by omega
  have hmod : (x0 : Int) % 16 = (i : Int) := by omega
  have hsml := lib_small ((x1 : Nat) % 8) ((x2 : Nat) % 8) (((x1 : Nat) + 4) % 8) ((x3 : Nat) % 6) ((x4 : Nat) % 4) i
  rw [← hi]
  generalize hP : (libL ((x1 : Nat) % 8) ((x2 : Nat) % 8) (((x1 : Nat) + 4) % 8) ((x3 : Nat) % 6) ((x4 : Nat) % 4))[i]?.getD [] = P at *
  have HP := Lib.hid hP
  have HI2 := Lib.hid hi
  have HM := Lib.hid hmod
  clear hP hi hmod
  go_enter Tryz.func11, Tryz.ntmps11
  go_wp2_with fail
  refine A1.out.mono ?_
  rintro e w' ⟨rfl, rfl⟩
  go_wp2_with fail
  refine A2.out.mono ?_
  rintro e w' ⟨rfl, rfl⟩
  go_wp2_with fail
  refine A3.out.mono ?_
  rintro e w' ⟨rfl, rfl⟩
  go_wp2_with fail
  refine A4.out.mono ?_
  rintro e w' ⟨rfl, rfl⟩
  go_upto_region 6 with (fail)
  have HT := tw_made w ((x1 : Nat) % 8) ((x2 : Nat) % 8) (((x1 : Nat) + 4) % 8) ((x3 : Nat) % 6) ((x4 : Nat) % 4)
  have hb := tw_below w ((x1 : Nat) % 8) ((x2 : Nat) % 8) (((x1 : Nat) + 4) % 8) ((x3 : Nat) % 6) ((x4 : Nat) % 4)
  generalize ((((((((((((w.alloc (.cells #[Value.int .i64 1, Value.int .i64 (↑x1 % 8)] 41)).alloc (.cells #[Value.int .i64 1, Value.int .i64 (↑x2 % 8)] 41)).alloc (.cells #[Value.int .i64 1, Value.int .i64 ((↑x1 + 4) % 8)] 41)).alloc (.cells #[Value.int .i64 2, Value.int .i64 (↑x1 % 8)] 41)).alloc (.cells #[Value.int .i64 7, Value.int .i64 (↑x1 % 8)] 41)).alloc (.cells #[Value.int .i64 3, Value.int .i64 0] 41)).alloc (.cells #[Value.int .i64 4, Value.int .i64 0] 41)).alloc (.cells #[Value.int .i64 5, Value.int .i64 0] 41)).alloc (.cells #[Value.int .i64 6, Value.int .i64 0] 41)).alloc (.cells #[Value.int .i64 8, Value.int .i64 (↑x3 % 6)] 41)).alloc (.cells #[Value.int .i64 9, Value.int .i64 (↑x4 % 4)] 41)).alloc (.cells #[Value.int .i64 10, Value.int .i64 (↑x4 % 4)] 41)) = W5 at *
  have hsz := HT.size
  have c0 : W5.cell? ⟨w.heap.size, 0, none⟩ = _ := HT.c0.1
  have d0 : W5.cell? ⟨w.heap.size, 1, none⟩ = _ := HT.c0.2
  have l0 : w.heap.size < W5.heap.size := by omega
  have c1 : W5.cell? ⟨w.heap.size + 1, 0, none⟩ = _ := HT.c1.1
  have d1 : W5.cell? ⟨w.heap.size + 1, 1, none⟩ = _ := HT.c1.2
  have l1 : w.heap.size + 1 < W5.heap.size := by omega
  have c2 : W5.cell? ⟨w.heap.size + 1 + 1, 0, none⟩ = _ := HT.c2.1
  have d2 : W5.cell? ⟨w.heap.size + 1 + 1, 1, none⟩ = _ := HT.c2.2
  have l2 : w.heap.size + 1 + 1 < W5.heap.size := by omega
  have c3 : W5.cell? ⟨w.heap.size + 1 + 1 + 1, 0, none⟩ = _ := HT.c3.1
  have d3 : W5.cell? ⟨w.heap.size + 1 + 1 + 1, 1, none⟩ = _ := HT.c3.2
  have l3 : w.heap.size + 1 + 1 + 1 < W5.heap.size := by omega
  have c4 : W5.cell? ⟨w.heap.size + 1 + 1 + 1 + 1, 0, none⟩ = _ := HT.c4.1
  have d4 : W5.cell? ⟨w.heap.size + 1 + 1 + 1 + 1, 1, none⟩ = _ := HT.c4.2
  have l4 : w.heap.size + 1 + 1 + 1 + 1 < W5.heap.size := by omega
  have c5 : W5.cell? ⟨w.heap.size + 1 + 1 + 1 + 1 + 1, 0, none⟩ = _ := HT.c5.1
  have d5 : W5.cell? ⟨w.heap.size + 1 + 1 + 1 + 1 + 1, 1, none⟩ = _ := HT.c5.2
  have l5 : w.heap.size + 1 + 1 + 1 + 1 + 1 < W5.heap.size := by omega
  have c6 : W5.cell? ⟨w.heap.size + 1 + 1 + 1 + 1 + 1 + 1, 0, none⟩ = _ := HT.c6.1
  have d6 : W5.cell? ⟨w.heap.size + 1 + 1 + 1 + 1 + 1 + 1, 1, none⟩ = _ := HT.c6.2
  have l6 : w.heap.size + 1 + 1 + 1 + 1 + 1 + 1 < W5.heap.size := by omega
  have c7 : W5.cell? ⟨w.heap.size + 1 + 1 + 1 + 1 + 1 + 1 + 1, 0, none⟩ = _ := HT.c7.1
  have d7 : W5.cell? ⟨w.heap.size + 1 + 1 + 1 + 1 + 1 + 1 + 1, 1, none⟩ = _ := HT.c7.2
  have l7 : w.heap.size + 1 + 1 + 1 + 1 + 1 + 1 + 1 < W5.heap.size := by omega
  have c8 : W5.cell? ⟨w.heap.size + 1 + 1 + 1 + 1 + 1 + 1 + 1 + 1, 0, none⟩ = _ := HT.c8.1
  have d8 : W5.cell? ⟨w.heap.size + 1 + 1 + 1 + 1 + 1 + 1 + 1 + 1, 1, none⟩ = _ := HT.c8.2
  have l8 : w.heap.size + 1 + 1 + 1 + 1 + 1 + 1 + 1 + 1 < W5.heap.size := by omega
  have c9 : W5.cell? ⟨w.heap.size + 1 + 1 + 1 + 1 + 1 + 1 + 1 + 1 + 1, 0, none⟩ = _ := HT.c9.1
  have d9 : W5.cell? ⟨w.heap.size + 1 + 1 + 1 + 1 + 1 + 1 + 1 + 1 + 1, 1, none⟩ = _ := HT.c9.2
  have l9 : w.heap.size + 1 + 1 + 1 + 1 + 1 + 1 + 1 + 1 + 1 < W5.heap.size := by omega
  have c10 : W5.cell? ⟨w.heap.size + 1 + 1 + 1 + 1 + 1 + 1 + 1 + 1 + 1 + 1, 0, none⟩ = _ := HT.c10.1
  have d10 : W5.cell? ⟨w.heap.size + 1 + 1 + 1 + 1 + 1 + 1 + 1 + 1 + 1 + 1, 1, none⟩ = _ := HT.c10.2
  have l10 : w.heap.size + 1 + 1 + 1 + 1 + 1 + 1 + 1 + 1 + 1 + 1 < W5.heap.size := by omega
  have c11 : W5.cell? ⟨w.heap.size + 1 + 1 + 1 + 1 + 1 + 1 + 1 + 1 + 1 + 1 + 1, 0, none⟩ = _ := HT.c11.1
  have d11 : W5.cell? ⟨w.heap.size + 1 + 1 + 1 + 1 + 1 + 1 + 1 + 1 + 1 + 1 + 1, 1, none⟩ = _ := HT.c11.2
  have l11 : w.heap.size + 1 + 1 + 1 + 1 + 1 + 1 + 1 + 1 + 1 + 1 + 1 < W5.heap.size := by omega
  clear HT hsz
  generalize w.heap.size + 1 + 1 + 1 + 1 + 1 + 1 + 1 + 1 + 1 + 1 + 1 = b11 at *
  generalize w.heap.size + 1 + 1 + 1 + 1 + 1 + 1 + 1 + 1 + 1 + 1 = b10 at *
  generalize w.heap.size + 1 + 1 + 1 + 1 + 1 + 1 + 1 + 1 + 1 = b9 at *
  generalize w.heap.size + 1 + 1 + 1 + 1 + 1 + 1 + 1 + 1 = b8 at *
  generalize w.heap.size + 1 + 1 + 1 + 1 + 1 + 1 + 1 = b7 at *
  generalize w.heap.size + 1 + 1 + 1 + 1 + 1 + 1 = b6 at *
  generalize w.heap.size + 1 + 1 + 1 + 1 + 1 = b5 at *
  generalize w.heap.size + 1 + 1 + 1 + 1 = b4 at *
  generalize w.heap.size + 1 + 1 + 1 = b3 at *
  generalize w.heap.size + 1 + 1 = b2 at *
  generalize w.heap.size + 1 = b1 at *
  go_upto_region 7 with (fail)
  have HL := lib_made W5 ((x1 : Nat) % 8) ((x2 : Nat) % 8) (((x1 : Nat) + 4) % 8) ((x3 : Nat) % 6) ((x4 : Nat) % 4)
  have hb2 := lib_below W5 ((x1 : Nat) % 8) ((x2 : Nat) % 8) (((x1 : Nat) + 4) % 8) ((x3 : Nat) % 6) ((x4 : Nat) % 4)
  generalize (((((((((((((((((W5.alloc (.cells #[Value.int .i64 1, Value.int .i64 (↑x1 % 8), Value.int .i64 3, Value.int .i64 0] 41)).alloc (.cells #[Value.int .i64 1, Value.int .i64 (↑x1 % 8), Value.int .i64 4, Value.int .i64 0, Value.int .i64 6, Value.int .i64 0] 41)).alloc (.cells #[Value.int .i64 2, Value.int .i64 (↑x1 % 8)] 41)).alloc (.cells #[Value.int .i64 2, Value.int .i64 (↑x1 % 8), Value.int .i64 4, Value.int .i64 0, Value.int .i64 6, Value.int .i64 0] 41)).alloc (.cells #[Value.int .i64 1, Value.int .i64 (↑x1 % 8), Value.int .i64 4, Value.int .i64 0, Value.int .i64 6, Value.int .i64 0, Value.int .i64 1, Value.int .i64 (↑x1 % 8)] 41)).alloc (.cells #[Value.int .i64 1, Value.int .i64 (↑x1 % 8), Value.int .i64 1, Value.int .i64 (↑x2 % 8)] 41)).alloc (.cells #[Value.int .i64 1, Value.int .i64 (↑x1 % 8), Value.int .i64 7, Value.int .i64 (↑x1 % 8)] 41)).alloc (.cells #[Value.int .i64 1, Value.int .i64 (↑x1 % 8), Value.int .i64 3, Value.int .i64 0, Value.int .i64 8, Value.int .i64 (↑x3 % 6)] 41)).alloc (.cells #[Value.int .i64 9, Value.int .i64 (↑x4 % 4), Value.int .i64 1, Value.int .i64 (↑x1 % 8), Value.int .i64 1, Value.int .i64 (↑x1 % 8), Value.int .i64 10, Value.int .i64 (↑x4 % 4)] 41)).alloc (.cells #[Value.int .i64 1, Value.int .i64 (↑x1 % 8), Value.int .i64 5, Value.int .i64 0, Value.int .i64 1, Value.int .i64 (↑x1 % 8), Value.int .i64 3, Value.int .i64 0] 41)).alloc (.cells #[Value.int .i64 10, Value.int .i64 (↑x4 % 4), Value.int .i64 1, Value.int .i64 (↑x1 % 8)] 41)).alloc (.cells #[Value.int .i64 1, Value.int .i64 (↑x1 % 8), Value.int .i64 4, Value.int .i64 0, Value.int .i64 6, Value.int .i64 0, Value.int .i64 1, Value.int .i64 ((↑x1 + 4) % 8)] 41)).alloc (.cells #[Value.int .i64 1, Value.int .i64 (↑x1 % 8), Value.int .i64 4, Value.int .i64 0, Value.int .i64 6, Value.int .i64 0, Value.int .i64 1, Value.int .i64 (↑x2 % 8), Value.int .i64 4, Value.int .i64 0, Value.int .i64 6, Value.int .i64 0] 41)).alloc (.cells #[Value.int .i64 2, Value.int .i64 (↑x1 % 8), Value.int .i64 5, Value.int .i64 0, Value.int .i64 1, Value.int .i64 (↑x1 % 8)] 41)).alloc (.cells #[Value.int .i64 1, Value.int .i64 (↑x1 % 8), Value.int .i64 4, Value.int .i64 0, Value.int .i64 6, Value.int .i64 0, Value.int .i64 8, Value.int .i64 (↑x3 % 6)] 41)).alloc (.cells #[Value.int .i64 1, Value.int .i64 (↑x1 % 8), Value.int .i64 7, Value.int .i64 (↑x1 % 8), Value.int .i64 1, Value.int .i64 (↑x2 % 8)] 41)).alloc (.cells #[Value.slice (some ⟨W5.heap.size, 0, none⟩) 2 2, Value.slice (some ⟨W5.heap.size + 1, 0, none⟩) 3 3, Value.slice (some ⟨W5.heap.size + 1 + 1, 0, none⟩) 1 1, Value.slice (some ⟨W5.heap.size + 1 + 1 + 1, 0, none⟩) 3 3, Value.slice (some ⟨W5.heap.size + 1 + 1 + 1 + 1, 0, none⟩) 4 4, Value.slice (some ⟨W5.heap.size + 1 + 1 + 1 + 1 + 1, 0, none⟩) 2 2, Value.slice (some ⟨W5.heap.size + 1 + 1 + 1 + 1 + 1 + 1, 0, none⟩) 2 2, Value.slice (some ⟨W5.heap.size + 1 + 1 + 1 + 1 + 1 + 1 + 1, 0, none⟩) 3 3, Value.slice (some ⟨W5.heap.size + 1 + 1 + 1 + 1 + 1 + 1 + 1 + 1, 0, none⟩) 4 4, Value.slice (some ⟨W5.heap.size + 1 + 1 + 1 + 1 + 1 + 1 + 1 + 1 + 1, 0, none⟩) 4 4, Value.slice (some ⟨W5.heap.size + 1 + 1 + 1 + 1 + 1 + 1 + 1 + 1 + 1 + 1, 0, none⟩) 2 2, Value.slice (some ⟨W5.heap.size + 1 + 1 + 1 + 1 + 1 + 1 + 1 + 1 + 1 + 1 + 1, 0, none⟩) 4 4, Value.slice (some ⟨W5.heap.size + 1 + 1 + 1 + 1 + 1 + 1 + 1 + 1 + 1 + 1 + 1 + 1, 0, none⟩) 6 6, Value.slice (some ⟨W5.heap.size + 1 + 1 + 1 + 1 + 1 + 1 + 1 + 1 + 1 + 1 + 1 + 1 + 1, 0, none⟩) 3 3, Value.slice (some ⟨W5.heap.size + 1 + 1 + 1 + 1 + 1 + 1 + 1 + 1 + 1 + 1 + 1 + 1 + 1 + 1, 0, none⟩) 4 4, Value.slice (some ⟨W5.heap.size + 1 + 1 + 1 + 1 + 1 + 1 + 1 + 1 + 1 + 1 + 1 + 1 + 1 + 1 + 1, 0, none⟩) 3 3] 26)) = W6 at *
  have hbw := below_step hb hb2
  have hrow := HL.row i hi16
  rw [HP.out] at hrow
  have hblk := HL.blk i hi16
  rw [HP.out] at hblk
  have hown : OwnStp w.heap.size W6 (.slice (some ⟨W5.heap.size + i, 0, none⟩) P.length P.length) P := own_block (by have := hb.size; omega) (by omega) hblk
  have hA := A0.out W6 (HI.out.up hN hbw)
  have HA := Lib.hid hA
  have HO := Lib.hid hown
  have HBW := Lib.hid hbw
  have hmod := HM.out
  generalize W5.heap.size + 1 + 1 + 1 + 1 + 1 + 1 + 1 + 1 + 1 + 1 + 1 + 1 + 1 + 1 + 1 + 1 = bV at *
  generalize W5.heap.size + i = bi at *
  clear HL hb2 hb hown hA hbw hblk c0 d0 l0 c1 d1 l1 c2 d2 l2 c3 d3 l3 c4 d4 l4 c5 d5 l5 c6 d6 l6 c7 d7 l7 c8 d8 l8 c9 d9 l9 c10 d10 l10 c11 d11 l11
  go_wp2_with fail
  refine HA.out.mono ?_
  rintro e w' ⟨rfl, rfl⟩
  go_wp2
  go_ret
  exact ⟨_, rfl, HO.out, HBW.out⟩
end Go.Proofs.YtidgdfjnjgonoaaGreatDoor
