/-
  Lemmas for the laws' fixed examples.
-/
import Derived.Test.YtidgdfjnjgonoaaGreatDoorSanP
namespace Go.Proofs.YtidgdfjnjgonoaaGreatDoor
open Go Go.RowKit Go.Sort Go.Lib

theorem prg_four (W : World) (x0 y0 x1 y1 x2 y2 x3 y3 : Int) : Prg (W.alloc (.cells #[.int .i64 x0, .int .i64 y0, .int .i64 x1, .int .i64 y1, .int .i64 x2, .int .i64 y2, .int .i64 x3, .int .i64 y3] 41)).heap.size (W.alloc (.cells #[.int .i64 x0, .int .i64 y0, .int .i64 x1, .int .i64 y1, .int .i64 x2, .int .i64 y2, .int .i64 x3, .int .i64 y3] 41)) (some ⟨W.heap.size, 0, none⟩) [(x0, y0), (x1, y1), (x2, y2), (x3, y3)] := by
  refine .inr ⟨W.heap.size, 0, rfl, by simp, fun j hj => ?_⟩
  rw [Nat.zero_add, World.cell?_alloc_new, World.cell?_alloc_new]
  match j, hj with
  | 0, _ => exact ⟨rfl, rfl⟩
  | 1, _ => exact ⟨rfl, rfl⟩
  | 2, _ => exact ⟨rfl, rfl⟩
  | 3, _ => exact ⟨rfl, rfl⟩

def oddL : List (List UInt8) := [[103, 111], [103, 111, 56], [103, 111, 48, 48], [103, 111, 48, 32, 32, 101, 109, 112, 116, 121], [101, 109, 112, 116, 121, 48], [116, 97, 107, 101, 32, 116, 97, 107, 101, 32, 116, 97, 107, 101], []]
theorem odd_parse (j : Nat) (h : j < 7) : parseS (oddL[j]?.getD []) = ([], 20) := by
  match j, h with
  | 0, _ => exact odd0_parse
  | 1, _ => exact odd1_parse
  | 2, _ => exact odd2_parse
  | 3, _ => exact odd3_parse
  | 4, _ => exact odd4_parse
  | 5, _ => exact odd5_parse
  | 6, _ => exact odd6_parse
theorem odd_len (j : Nat) : (oddL[j]?.getD []).length < 4294967281 := by
  cases h : oddL[j]? with
  | none => simp
  | some x =>
    have := List.mem_of_getElem? h
    have hall : ∀ y ∈ oddL, y.length < 100 := by decide
    have := hall x this
    simp; omega
theorem odd_cell (W : World) (j : Nat) (h : j < 7) : (W.alloc (.cells #[.string ⟨#[103, 111]⟩, .string ⟨#[103, 111, 56]⟩, .string ⟨#[103, 111, 48, 48]⟩, .string ⟨#[103, 111, 48, 32, 32, 101, 109, 112, 116, 121]⟩, .string ⟨#[101, 109, 112, 116, 121, 48]⟩, .string ⟨#[116, 97, 107, 101, 32, 116, 97, 107, 101, 32, 116, 97, 107, 101]⟩, .string ⟨#[]⟩] 9)).cell? ⟨W.heap.size, j, none⟩ = some (.string ⟨(oddL[j]?.getD []).toArray⟩) := by
  rw [World.cell?_alloc_new]
  match j, h with
  | 0, _ => rfl
  | 1, _ => rfl
  | 2, _ => rfl
  | 3, _ => rfl
  | 4, _ => rfl
  | 5, _ => rfl
  | 6, _ => rfl

theorem lit_one (W : World) (x : Int) : Ints (W.heap.size + 1) (W.alloc (.cells #[.int .i64 x] 3)) (some ⟨W.heap.size, 0, none⟩) [x] := by
  refine .inr ⟨W.heap.size, 0, rfl, by omega, fun j hj => ?_⟩
  rw [Nat.zero_add, World.cell?_alloc_new]
  match j, hj with
  | 0, _ => rfl
theorem Ints.below_alloc1 {W : World} {a : Option Addr} {l : List Int} (h : Ints W.heap.size W a l) (o : Obj) : Ints (W.heap.size + 1) (W.alloc o) a l := (h.below (below_alloc (Below.refl _ _) o)).mono (by omega)
theorem ints_of_own {n : Nat} {W : World} {v : Value} {l : List Int} (h : OwnInts n W v l) : ∃ a cap, v = .slice a l.length cap ∧ Ints W.heap.size W a l := by
  rcases h.2 with ⟨h1, h2⟩ | ⟨g, cap, cur, rfl, hg, hc, _⟩
  · have : l = [] := List.length_eq_zero_iff.1 h2
    subst this
    exact ⟨none, 0, h1, .inl rfl⟩
  · refine ⟨_, cap, rfl, .inr ⟨g, 0, rfl, (Array.getElem?_eq_some_iff.1 hc).1, fun j hj => ?_⟩⟩
    rw [Nat.zero_add]
    exact (h.cellAt hj).1
end Go.Proofs.YtidgdfjnjgonoaaGreatDoor
