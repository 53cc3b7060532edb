/-
  Slices of steps that are the call's own.
-/
import Derived.Test.YtidgdfjnjgonoaaGreatDoorPBase
import Derived.Laws.OwnMore
import Derived.OwnWalk
namespace Go.Proofs.YtidgdfjnjgonoaaGreatDoor
open Go Go.RowKit

def flatP : List (Int × Int) → List Value
  | [] => []
  | x :: l => .int .i64 x.1 :: .int .i64 x.2 :: flatP l
theorem flatP_len : ∀ l : List (Int × Int), (flatP l).length = l.length * 2
  | [] => rfl
  | x :: l => by simp only [flatP, List.length_cons, flatP_len l]; omega
theorem flatP_get : ∀ (l : List (Int × Int)) (j : Nat), j < l.length → (flatP l)[j * 2]? = some (.int .i64 (l[j]?.getD (0, 0)).1) ∧ (flatP l)[j * 2 + 1]? = some (.int .i64 (l[j]?.getD (0, 0)).2)
  | x :: l, 0, _ => by simp [flatP]
  | x :: l, j + 1, h => by
    have ih := flatP_get l j (by simpa using h)
    have e : (j + 1) * 2 = j * 2 + 1 + 1 := by omega
    rw [e]
    simp only [flatP, List.getElem?_cons_succ]
    exact ih
theorem flatP_set : ∀ (l : List (Int × Int)) (j : Nat) (x : Int × Int), j < l.length → ((flatP l).set (j * 2) (.int .i64 x.1)).set (j * 2 + 1) (.int .i64 x.2) = flatP (l.set j x)
  | y :: l, 0, x, _ => by simp [flatP]
  | y :: l, j + 1, x, h => by
    have ih := flatP_set l j x (by simpa using h)
    have e : (j + 1) * 2 = j * 2 + 1 + 1 := by omega
    rw [e]
    simp only [flatP, List.set_cons_succ]
    rw [ih]
theorem flatP_app : ∀ l m : List (Int × Int), flatP (l ++ m) = flatP l ++ flatP m
  | [], m => rfl
  | x :: l, m => by simp [flatP, flatP_app l m]
theorem flatP_one : ∀ l : List (Int × Int), ∀ u ∈ flatP l, u.oneCell' = true
  | [], u, h => by cases h
  | x :: l, u, h => by
    simp only [flatP, List.mem_cons] at h
    rcases h with rfl | rfl | h
    · rfl
    · rfl
    · exact flatP_one l u h
theorem flatP_zero : ∀ n : Nat, (madeCells (Value.agg #[.int .i64 0, .int .i64 0]).cells (n * 2)).toList = flatP (List.replicate n (0, 0)) := by
  intro n
  apply List.ext_getElem?
  intro i
  have hl : (madeCells (Value.agg #[.int .i64 0, .int .i64 0]).cells (n * 2)).toList.length = n * 2 := by simp [madeCells]
  by_cases hi : i < n * 2
  · have hr : (flatP (List.replicate n ((0 : Int), (0 : Int))))[i]? = some (.int .i64 0) := by
      obtain ⟨j, hj⟩ : ∃ j, i = j * 2 ∨ i = j * 2 + 1 := ⟨i / 2, by omega⟩
      have hjn : j < n := by omega
      have := flatP_get (List.replicate n ((0 : Int), (0 : Int))) j (by simpa using hjn)
      have e : (List.replicate n ((0 : Int), (0 : Int)))[j]?.getD (0, 0) = (0, 0) := by simp [hjn]
      rw [e] at this
      rcases hj with rfl | rfl
      · exact this.1
      · exact this.2
    rw [hr]
    have h2 : i % 2 = 0 ∨ i % 2 = 1 := by omega
    simp only [madeCells, Array.toList_map, Array.toList_range, List.getElem?_map, List.getElem?_range hi, Option.map_some]
    show some ((#[Value.int .i64 0, Value.int .i64 0] : Array Value)[i % 2]!) = _
    rcases h2 with h | h <;> rw [h] <;> rfl
  · rw [List.getElem?_eq_none (by omega), List.getElem?_eq_none (by rw [flatP_len]; simp; omega)]

def OwnStp (n : Nat) (W : World) (v : Value) (l : List (Int × Int)) : Prop := W.ownsRow n 41 2 v l.length (flatP l)
theorem OwnStp.form {n : Nat} {W : World} {v : Value} {l : List (Int × Int)} (h : OwnStp n W v l) : (v = .slice none 0 0 ∧ l = []) ∨ ∃ g cap, v = .slice (some ⟨g, 0, none⟩) l.length cap ∧ n ≤ g ∧ g < W.heap.size := by
  rcases h.2 with ⟨h1, h2⟩ | ⟨g, cap, cur, hv, hg, hc, _⟩
  · exact .inl ⟨h1, List.length_eq_zero_iff.1 h2⟩
  · exact .inr ⟨g, cap, hv, hg, (Array.getElem?_eq_some_iff.1 hc).1⟩
theorem OwnStp.mono {n m : Nat} {W : World} {v : Value} {l : List (Int × Int)} (h : OwnStp n W v l) (hm : m ≤ n) : OwnStp m W v l := by
  refine ⟨h.1, ?_⟩
  rcases h.2 with h2 | ⟨g, cap, cur, hv, hg, r⟩
  · exact .inl h2
  · exact .inr ⟨g, cap, cur, hv, Nat.le_trans hm hg, r⟩
theorem OwnStp.alters {n : Nat} {W W' : World} {v : Value} {l : List (Int × Int)} (h : OwnStp n W v l) {S : Nat → Prop} (ha : Alters S W W') (hS : ∀ k, S k → ¬ some k = v.ownBlock) : OwnStp n W' v l := by
  refine ⟨h.1, ?_⟩
  rcases h.2 with h2 | ⟨g, cap, cur, rfl, hg, hc, r⟩
  · exact .inl h2
  · exact .inr ⟨g, cap, cur, rfl, hg, (ha.block g (Array.getElem?_eq_some_iff.1 hc).1 (fun hs => hS g hs rfl)).trans hc, r⟩
theorem OwnStp.below {n : Nat} {W W' : World} {v : Value} {l : List (Int × Int)} (h : OwnStp n W v l) (hb : Below W.heap.size W W') : OwnStp n W' v l :=
  h.alters (S := fun _ => False) (Alters.of_below hb) (fun _ h => h.elim)
theorem OwnStp.cellAt {n : Nat} {W : World} {g k cap : Nat} {l : List (Int × Int)} (h : OwnStp n W (.slice (some ⟨g, 0, none⟩) k cap) l) {j : Nat} (hj : j < l.length) :
    W.cell? ⟨g, j * 2, none⟩ = some (.int .i64 (l[j]?.getD (0, 0)).1) ∧ W.cell? ⟨g, j * 2 + 1, none⟩ = some (.int .i64 (l[j]?.getD (0, 0)).2) ∧ ∀ i, W.frozen? ⟨g, i, none⟩ = false := by
  obtain rfl : k = l.length := by
    rcases h.2 with ⟨h0, _⟩ | ⟨_, _, _, hv, _⟩
    · cases h0
    · cases hv; rfl
  have hg := flatP_get l j hj
  refine ⟨?_, ?_, fun i => World.ownsRow.frozenAt h i⟩
  · rw [World.ownsRow.cellAt h _ (by omega)]; exact hg.1
  · rw [World.ownsRow.cellAt h _ (by omega)]; exact hg.2
theorem OwnStp.prg {n : Nat} {W : World} {v : Value} {l : List (Int × Int)} (h : OwnStp n W v l) : ∃ a cap, v = .slice a l.length cap ∧ Prg W.heap.size W a l := by
  rcases h.form with ⟨rfl, rfl⟩ | ⟨g, cap, rfl, hg, hlt⟩
  · exact ⟨none, 0, rfl, .inl rfl⟩
  · refine ⟨_, cap, rfl, .inr ⟨g, 0, rfl, hlt, fun j hj => ?_⟩⟩
    obtain ⟨h1, h2, _⟩ := h.cellAt hj
    rw [Nat.zero_add]
    exact ⟨h1, h2⟩
theorem OwnStp.put {n : Nat} {W : World} {g k cap : Nat} {l : List (Int × Int)} (h : OwnStp n W (.slice (some ⟨g, 0, none⟩) k cap) l) {j : Nat} (hj : j < l.length) (x : Int × Int) :
    OwnStp n ((W.setCell ⟨g, j * 2, none⟩ (.int .i64 x.1)).setCell ⟨g, j * 2 + 1, none⟩ (.int .i64 x.2)) (.slice (some ⟨g, 0, none⟩) k cap) (l.set j x) := by
  obtain rfl : k = l.length := by
    rcases h.2 with ⟨h0, _⟩ | ⟨_, _, _, hv, _⟩
    · cases h0
    · cases hv; rfl
  have h2 := (World.ownsRow.stored (World.ownsRow.stored h (j * 2) (.int .i64 x.1)).1 (j * 2 + 1) (.int .i64 x.2)).1
  rw [flatP_set l j x hj] at h2
  unfold OwnStp
  rw [List.length_set]
  exact h2
theorem info_step : (Tryz.prog.info? 41).map (fun i => (i.zero, i.size, i.bytes)) = some (some (.agg #[.int .i64 0, .int .i64 0]), 2, 16) := by kernel_rfl
end Go.Proofs.YtidgdfjnjgonoaaGreatDoor
