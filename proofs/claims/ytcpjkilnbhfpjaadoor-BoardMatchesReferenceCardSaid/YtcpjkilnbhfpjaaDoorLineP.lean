/-
  A line as a list: step by step, no cell twice, as far as it goes.
-/
import Derived.Test.YtcpjkilnbhfpjaaDoorLine
import Derived.Test.YtcpjkilnbhfpjaaDoorTo
namespace Go.Proofs.YtcpjkilnbhfpjaaDoor
open Go Go.RowKit

def atS (c : Int) (L : List Int) (i : Nat) : Int := (c :: L)[i]?.getD 0

structure Chain (B : Brd) (dd c : Int) (L : List Int) : Prop where
  nodup : (c :: L).Nodup
  rng : ∀ x ∈ L, 0 ≤ x ∧ x < B.cells
  step : ∀ i, i < L.length → L[i]?.getD 0 = nextS B dd (atS c L i)

theorem Chain.short {B : Brd} {dd c : Int} {L : List Int} (h : Chain B dd c L) (hc : 0 ≤ c ∧ c < B.cells) : (L.length : Int) + 1 ≤ B.cells := by
  have := pigeon B.cells.toNat (c :: L) h.nodup (fun x hx => by
    rcases List.mem_cons.1 hx with rfl | hx
    · omega
    · have := h.rng x hx; omega)
  simp only [List.length_cons] at this
  omega

theorem lineTo_spec {B : Brd} (hB : B.Ok) (dd c : Int) (hc : 0 ≤ c ∧ c < B.cells) : ∀ (k : Nat) (pre : List Int), Chain B dd c pre → 64 ≤ k + pre.length →
    Chain B dd c (lineTo B dd c k pre (atS c pre pre.length)) ∧ (nextS B dd (atS c (lineTo B dd c k pre (atS c pre pre.length)) (lineTo B dd c k pre (atS c pre pre.length)).length) < 0 ∨
      nextS B dd (atS c (lineTo B dd c k pre (atS c pre pre.length)) (lineTo B dd c k pre (atS c pre pre.length)).length) ∈ c :: lineTo B dd c k pre (atS c pre pre.length))
  | 0, pre, h, hk => by
    have h1 := h.short hc
    have h2 := hB.hi
    omega
  | k + 1, pre, h, hk => by
    by_cases hs : nextS B dd (atS c pre pre.length) < 0 ∨ nextS B dd (atS c pre pre.length) = c ∨ nextS B dd (atS c pre pre.length) ∈ pre
    · rw [lineTo_stop B dd c (k + 1) pre _ hs]
      refine ⟨h, ?_⟩
      rcases hs with hs | hs | hs
      · exact .inl hs
      · exact .inr (by rw [hs]; simp)
      · exact .inr (List.mem_cons_of_mem _ hs)
    · rw [lineTo_go B dd c k pre _ hs]
      have hx : ¬ nextS B dd (atS c pre pre.length) < 0 := fun e => hs (.inl e)
      have hxc : ¬ nextS B dd (atS c pre pre.length) = c := fun e => hs (.inr (.inl e))
      have hxp : ¬ nextS B dd (atS c pre pre.length) ∈ pre := fun e => hs (.inr (.inr e))
      have hr := nextS_range hB dd (atS c pre pre.length)
      have hlast : atS c (pre ++ [nextS B dd (atS c pre pre.length)]) (pre ++ [nextS B dd (atS c pre pre.length)]).length = nextS B dd (atS c pre pre.length) := by
        unfold atS
        rw [List.length_append, List.length_singleton, List.getElem?_cons_succ, List.getElem?_concat_length, Option.getD_some]
      have hch : Chain B dd c (pre ++ [nextS B dd (atS c pre pre.length)]) := by
        refine ⟨?_, ?_, ?_⟩
        · have hn := h.nodup
          rw [← List.cons_append]
          refine List.nodup_append.2 ⟨hn, by simp, ?_⟩
          intro a ha b hb e
          rw [List.mem_singleton.1 hb] at e
          subst e
          rcases List.mem_cons.1 ha with e | e
          · exact hxc e
          · exact hxp e
        · intro x hx
          rcases List.mem_append.1 hx with hx | hx
          · exact h.rng x hx
          · rw [List.mem_singleton.1 hx]; omega
        · intro i hi
          rw [List.length_append, List.length_singleton] at hi
          by_cases e : i = pre.length
          · subst e
            rw [List.getElem?_concat_length, Option.getD_some]
            unfold atS
            rw [← List.cons_append, List.getElem?_append_left (by simp)]
          · rw [List.getElem?_append_left (by omega), h.step i (by omega)]
            unfold atS
            rw [← List.cons_append, List.getElem?_append_left (by simp; omega)]
      have ih := lineTo_spec hB dd c hc k _ hch (by rw [List.length_append, List.length_singleton]; omega)
      rw [hlast] at ih
      exact ih

/-- What is known of a line that begins at a cell. -/
theorem line_spec {B : Brd} (hB : B.Ok) (s d c : Int) (hc : 0 ≤ c ∧ c < B.cells) :
    Chain B (meantS B.turn s d) c (lineOf B s d c) ∧ (toS B s d (atS c (lineOf B s d c) (lineOf B s d c).length) < 0 ∨ toS B s d (atS c (lineOf B s d c) (lineOf B s d c).length) ∈ c :: lineOf B s d c) := by
  have h := lineTo_spec hB (meantS B.turn s d) c hc 64 [] ⟨by simp, by simp, by simp⟩ (by simp)
  have e : atS c [] ([] : List Int).length = c := rfl
  rw [e] at h
  exact h

theorem take_at (c : Int) (L : List Int) (i : Nat) (h : i ≤ L.length) : (c :: L).take (i + 1) ++ (if i < L.length then [L[i]?.getD 0] else []) = (c :: L).take (i + 1 + 1) := by
  by_cases hi : i < L.length
  · rw [if_pos hi, List.take_add_one (i := i + 1)]
    simp [hi]
  · rw [if_neg hi]
    have : i = L.length := by omega
    subst this
    rw [List.append_nil, List.take_of_length_le (by simp), List.take_of_length_le (by simp)]

theorem Chain.fresh {B : Brd} {dd c : Int} {L : List Int} (h : Chain B dd c L) {i : Nat} (hi : i < L.length) : ¬ L[i]?.getD 0 ∈ (c :: L).take (i + 1) := by
  intro hm
  obtain ⟨j, hj⟩ := List.getElem?_of_mem hm
  have hjl := (List.getElem?_eq_some_iff.1 hj).1
  rw [List.length_take] at hjl
  have hj1 : (c :: L)[j]? = some (L[i]?.getD 0) := by
    rw [List.getElem?_take, if_pos (by omega)] at hj
    exact hj
  have hi1 : (c :: L)[i + 1]? = some (L[i]?.getD 0) := by rw [List.getElem?_cons_succ]; simp [hi]
  have hn := h.nodup
  have hlc : (c :: L).length = L.length + 1 := by simp
  have hp := (List.pairwise_iff_getElem.1 hn) j (i + 1) (by omega) (by omega) (by omega)
  rw [List.getElem?_eq_getElem (by omega), Option.some.injEq] at hj1 hi1
  exact hp (by rw [hj1, hi1])
end Go.Proofs.YtcpjkilnbhfpjaaDoor
