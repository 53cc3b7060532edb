/-
  Near as a list: the cells that a step joins, in their order.
-/
import Derived.Test.YtcpjkilnbhfpjaaDoorNear
namespace Go.Proofs.YtcpjkilnbhfpjaaDoor
open Go Go.RowKit Go.Lib

theorem eq_of_strict : ∀ (a b : List Int), a.Pairwise (· < ·) → b.Pairwise (· < ·) → (∀ x, x ∈ a ↔ x ∈ b) → a = b
  | [], [], _, _, _ => rfl
  | [], y :: b, _, _, h => absurd ((h y).2 (by simp)) (by simp)
  | x :: a, [], _, _, h => absurd ((h x).1 (by simp)) (by simp)
  | x :: a, y :: b, ha, hb, h => by
    have ha' := List.pairwise_cons.1 ha
    have hb' := List.pairwise_cons.1 hb
    have hxy : x = y := by
      rcases List.mem_cons.1 ((h x).1 (by simp)) with e | e
      · exact e
      · rcases List.mem_cons.1 ((h y).2 (by simp)) with e2 | e2
        · exact e2.symm
        · have h1 := hb'.1 x e
          have h2 := ha'.1 y e2
          omega
    subst hxy
    congr 1
    refine eq_of_strict a b ha'.2 hb'.2 (fun z => ⟨fun hz => ?_, fun hz => ?_⟩)
    · rcases List.mem_cons.1 ((h z).1 (List.mem_cons_of_mem _ hz)) with e | e
      · have := ha'.1 z hz; omega
      · exact e
    · rcases List.mem_cons.1 ((h z).2 (List.mem_cons_of_mem _ hz)) with e | e
      · have := hb'.1 z hz; omega
      · exact e

theorem compact_strict (l : List Int) (hs : l.Pairwise (· ≤ ·)) : (compact l).Pairwise (· < ·) ∧ ∀ x, x ∈ compact l ↔ x ∈ l := by
  have hget : ∀ j, j < l.length → l.toArray[j]! = l[j]?.getD 0 := fun j hj => by simp [hj]
  have hle : ∀ i j, i ≤ j → j < l.length → l[i]?.getD 0 ≤ l[j]?.getD 0 := fun i j hij hj => by
    rw [List.getElem?_eq_getElem hj, List.getElem?_eq_getElem (by omega : i < l.length)]
    rcases Nat.lt_or_eq_of_le hij with h | rfl
    · exact List.pairwise_iff_getElem.1 hs i j (by omega) hj h
    · exact Int.le_refl _
  have key : ∀ m, m ≤ l.length → (compactUpTo l.toArray m).Pairwise (· < ·) ∧ ∀ x, x ∈ compactUpTo l.toArray m ↔ ∃ j, j < m ∧ l[j]?.getD 0 = x := by
    intro m
    induction m with
    | zero => intro _; exact ⟨by simp [compactUpTo], fun x => by simp [compactUpTo]⟩
    | succ m ih =>
      intro hm
      obtain ⟨i1, i2⟩ := ih (by omega)
      rw [compactUpTo_succ, hget m (by omega)]
      by_cases hk : keeps l.toArray m = true
      · rw [if_pos hk]
        refine ⟨?_, fun x => ?_⟩
        · rw [List.pairwise_append]
          refine ⟨i1, by simp, fun x hx y hy => ?_⟩
          rw [List.mem_singleton.1 hy]
          obtain ⟨j, hj, rfl⟩ := (i2 x).1 hx
          have h1 := hle j (m - 1) (by omega) (by omega)
          have h2 := hle (m - 1) m (by omega) (by omega)
          have h3 : l[m]?.getD 0 ≠ l[m - 1]?.getD 0 := fun e => by
            have := keeps_neg (d := l.toArray) (m := m) (by omega) (by rw [hget m (by omega), hget (m - 1) (by omega)]; exact e)
            rw [this] at hk; cases hk
          omega
        · rw [List.mem_append, i2, List.mem_singleton]
          refine ⟨fun h => ?_, fun ⟨j, hj, e⟩ => ?_⟩
          · rcases h with ⟨j, hj, e⟩ | e
            · exact ⟨j, by omega, e⟩
            · exact ⟨m, by omega, e.symm⟩
          · by_cases e' : j = m
            · right; rw [← e, e']
            · left; exact ⟨j, by omega, e⟩
      · rw [if_neg hk, List.append_nil]
        refine ⟨i1, fun x => ?_⟩
        rw [i2]
        refine ⟨fun ⟨j, hj, e⟩ => ⟨j, by omega, e⟩, fun ⟨j, hj, e⟩ => ?_⟩
        by_cases e' : j = m
        · have h0 : 0 < m := by
            rcases Nat.eq_zero_or_pos m with h | h
            · exact absurd (keeps_lt_one l.toArray m (by omega)) hk
            · exact h
          have : l[m]?.getD 0 = l[m - 1]?.getD 0 := Classical.byContradiction fun hne => hk (keeps_pos (by rw [hget m (by omega), hget (m - 1) (by omega)]; exact hne))
          exact ⟨m - 1, by omega, by rw [← this, ← e', e]⟩
        · exact ⟨j, by omega, e⟩
  obtain ⟨k1, k2⟩ := key l.length (Nat.le_refl _)
  refine ⟨k1, fun x => (k2 x).trans ⟨fun ⟨j, hj, e⟩ => ?_, fun hx => ?_⟩⟩
  · rw [← e, List.getElem?_eq_getElem hj]; exact List.getElem_mem hj
  · obtain ⟨j, hj⟩ := List.getElem?_of_mem hx
    exact ⟨j, (List.getElem?_eq_some_iff.1 hj).1, by rw [hj]; rfl⟩

/-- Some direction leads from a to c. -/
def stepB (B : Brd) (a c : Int) : Bool := (List.range B.next.length).any fun d => decide (nextS B (d : Nat) a = c)
/-- The cells one step away, in order. -/
def nearL (B : Brd) (c : Int) (n : Nat) : List Int := ((List.range n).map fun x => ((x : Nat) : Int)).filter fun x => (x != c) && stepB B c x

theorem mem_stepsS (B : Brd) (a c : Int) : c ∈ stepsS B a ↔ 0 ≤ c ∧ stepB B a c = true := by
  unfold stepsS stepsTo stepB
  simp only [List.mem_filter, List.mem_map, List.mem_range, List.any_eq_true, decide_eq_true_eq]
  exact ⟨fun ⟨⟨d, hd, e⟩, h⟩ => ⟨h, d, hd, e⟩, fun ⟨h, d, hd, e⟩ => ⟨⟨d, hd, e⟩, h⟩⟩

theorem nearS_eq {B : Brd} (hB : B.Ok) (c : Int) : nearS B c = nearL B c B.cells.toNat := by
  have h1 := List.pairwise_mergeSort (le := fun x y : Int => decide (x ≤ y)) (fun a b c h1 h2 => by simp at h1 h2 ⊢; omega) (fun a b => by simp; omega) (others c (stepsS B c))
  have h2 := compact_strict _ (h1.imp (fun h => by simpa using h))
  refine eq_of_strict _ _ h2.1 ?_ (fun x => (h2.2 x).trans ?_)
  · refine List.Pairwise.filter _ ?_
    rw [List.pairwise_map]
    exact List.pairwise_lt_range.imp (fun h => by omega)
  · rw [List.mem_mergeSort]
    unfold others nearL
    simp only [List.mem_filter, mem_stepsS, List.mem_map, List.mem_range, Bool.and_eq_true]
    refine ⟨fun ⟨⟨h0, hs⟩, hn⟩ => ⟨⟨x.toNat, ?_, by omega⟩, hn, hs⟩, fun ⟨⟨k, hk, e⟩, hn, hs⟩ => ⟨⟨by omega, hs⟩, hn⟩⟩
    unfold stepB at hs
    simp only [List.any_eq_true, List.mem_range, decide_eq_true_eq] at hs
    obtain ⟨d, _, e⟩ := hs
    have := nextS_range hB d c
    omega
end Go.Proofs.YtcpjkilnbhfpjaaDoor
