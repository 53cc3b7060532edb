/-
  IndexAll: the positions of a material by their numbers (pure).
-/
import Derived.Test.YtepbmgbomdekaaaXOrM
import Derived.Test.YtepbmgbomdekaaaXAt
namespace Go.Proofs.Ytepbmgbomdekaaa
open Go Go.RowKit

theorem ways_six : ∀ a, a < 7 → ∀ b, b < 7 → ∀ c, c < 7 → a + b + c ≤ 6 → ways [a, b, c] ≤ 100 := by decide +kernel
theorem list_three {l : List Nat} (h : l.length = 3) : ∃ a b c, l = [a, b, c] := by
  match l, h with
  | [a, b, c], _ => exact ⟨a, b, c, rfl⟩
theorem ways_one {l : List Nat} (h : l.length = 3) (hs : l.sum ≤ 6) : ways l ≤ 100 := by
  obtain ⟨a, b, c, rfl⟩ := list_three h
  simp only [List.sum_cons, List.sum_nil] at hs
  exact ways_six a (by omega) b (by omega) c (by omega) (by omega)
theorem ways_four {l : List Nat} (hs : l.sum ≤ 4) : ways l ≤ 100 := by
  have h := ways_le l
  rcases (show l.sum = 0 ∨ l.sum = 1 ∨ l.sum = 2 ∨ l.sum = 3 ∨ l.sum = 4 by omega) with e | e | e | e | e <;> rw [e] at h <;> exact Nat.le_trans h (by decide)

theorem orI_zero (x : Int) : orI 0 x = x := by unfold orI; rw [if_pos rfl]

section
variable {bc nk h : Nat} {q : List Nat}
/-- The position of number i. -/
def allP (bc nk h : Nat) (q : List Nat) (i : Nat) : PosS := fldP nk (atS (countN (2 * nk + 1) q) bc i) h
theorem all_row (hl : q.length = bc) (hq : ∀ x ∈ q, x < 2 * nk + 1) {i : Nat} (hi : i < ways (countN (2 * nk + 1) q)) :
    (atS (countN (2 * nk + 1) q) bc i).length = bc ∧ (∀ x ∈ atS (countN (2 * nk + 1) q) bc i, x < 2 * nk + 1) ∧ countN (2 * nk + 1) (atS (countN (2 * nk + 1) q) bc i) = countN (2 * nk + 1) q ∧ Counts (countN (2 * nk + 1) q) (atS (countN (2 * nk + 1) q) bc i) ∧ rankS (countN (2 * nk + 1) q) (atS (countN (2 * nk + 1) q) bc i) = i := by
  have hs : (countN (2 * nk + 1) q).sum = bc := by rw [countN_sum _ _ hq, hl]
  obtain ⟨hc, hr⟩ := at_counts bc hs hi
  have hlt : ∀ x ∈ atS (countN (2 * nk + 1) q) bc i, x < 2 * nk + 1 := fun x hx => by have := counts_lt hc hx; rwa [countN_len] at this
  refine ⟨by rw [hc.1, hs], hlt, ?_, hc, hr⟩
  exact counts_inj (by rw [countN_len, countN_len]) (counts_countN hlt) hc
theorem all_cmp (hl : q.length = bc) (hq : ∀ x ∈ q, x < 2 * nk + 1) {i j : Nat} (hij : i < j) (hj : j < ways (countN (2 * nk + 1) q)) : cmpP (allP bc nk h q i) (allP bc nk h q j) = -1 := by
  obtain ⟨l1, -, -, c1, r1⟩ := all_row hl hq (Nat.lt_trans hij hj)
  obtain ⟨l2, -, -, c2, r2⟩ := all_row hl hq hj
  have ho := rank_order c1 c2
  rw [r1, r2] at ho
  unfold allP
  rw [fld_cmp (by rw [l1, l2])]
  have hlt := ho.1.1 hij
  have e := fld_cmp (nk := nk) (h := h) (q := atS (countN (2 * nk + 1) q) bc i) (r := atS (countN (2 * nk + 1) q) bc j) (by rw [l1, l2])
  rcases cmpP_ok.rng (fldP nk (atS (countN (2 * nk + 1) q) bc i) h) (fldP nk (atS (countN (2 * nk + 1) q) bc j) h) with h9 | h9 | h9 <;> omega
theorem all_srt (hl : q.length = bc) (hq : ∀ x ∈ q, x < 2 * nk + 1) : Srt ((List.range (ways (countN (2 * nk + 1) q))).map (allP bc nk h q)) := by
  unfold Srt
  rw [List.pairwise_iff_getElem]
  intro i j hi hj hij
  simp only [List.getElem_map, List.getElem_range]
  exact all_cmp hl hq hij (by simpa using hj)
theorem all_find (hl : q.length = bc) (hq : ∀ x ∈ q, x < 2 * nk + 1) : 0 ≤ findS ((List.range (ways (countN (2 * nk + 1) q))).map (allP bc nk h q)) (fldP nk q h) := by
  have hc := counts_countN hq
  have hr := rank_lt hc
  have e := at_rank hc
  rw [hl] at e
  rw [findS_at (all_srt hl hq) (i := rankS (countN (2 * nk + 1) q) q) (by simpa using hr) (by simp only [List.getElem_map, List.getElem_range]; unfold allP; rw [e])]
  omega
theorem all_mat (hl : q.length = bc) (hq : ∀ x ∈ q, x < 2 * nk + 1) {i : Nat} (hi : i < ways (countN (2 * nk + 1) q)) : matS (2 * nk + 1) (atS (countN (2 * nk + 1) q) bc i) (allP bc nk h q i) = matS (2 * nk + 1) q (fldP nk q h) := by
  unfold matS allP
  rw [(all_row hl hq hi).2.2.1]
  rfl
theorem all_at (h1 : 1 ≤ nk) (h8 : h ≤ 8) (hl : q.length = bc) (hq : ∀ x ∈ q, x < 2 * nk + 1) (hw : ways (countN (2 * nk + 1) q) ≤ 100) :
    sizeV bc 2 (blankK nk) (matS (2 * nk + 1) q (fldP nk q h)) = (ways (countN (2 * nk + 1) q), 0) ∧ (∀ i, i < ways (countN (2 * nk + 1) q) → atV bc 2 (blankK nk) (matS (2 * nk + 1) q (fldP nk q h)) (i : Int) = (allP bc nk h q i, 0)) ∧
      atV bc 2 (blankK nk) (matS (2 * nk + 1) q (fldP nk q h)) ((ways (countN (2 * nk + 1) q) : Nat) : Int) = (zeroP, 140) := by
  rcases ranks_pure (h := h) h1 h8 hl hq with ⟨-, hs, -⟩ | ⟨hw2, -⟩
  · refine ⟨hs, fun i hi => ?_, ?_⟩
    · unfold atV
      have hn : nats (matS (2 * nk + 1) q (fldP nk q h)).cells = countN (2 * nk + 1) q := nats_zs _
      rw [hs, if_pos rfl, if_pos ⟨by omega, by omega⟩, hn, Int.toNat_natCast]
      rfl
    · unfold atV
      rw [hs, if_pos rfl, if_neg (by rintro ⟨_, h9⟩; omega)]
  · omega
theorem all_valid (h1 : 1 ≤ nk) (h8 : h ≤ 8) (hl : q.length = bc) (hq : ∀ x ∈ q, x < 2 * nk + 1) {i : Nat} (hi : i < ways (countN (2 * nk + 1) q)) : posB bc 2 (blankK nk) (allP bc nk h q i) = true := by
  obtain ⟨l1, l2, -⟩ := all_row hl hq hi
  exact fld_valid h1 h8 l1 l2
theorem all_ways (hl : q.length = bc) (hq : ∀ x ∈ q, x < 2 * nk + 1) (hc : (nk = 1 ∧ bc ≤ 6) ∨ (nk = 2 ∧ bc ≤ 4)) : 1 ≤ ways (countN (2 * nk + 1) q) ∧ ways (countN (2 * nk + 1) q) ≤ 100 := by
  have hs : (countN (2 * nk + 1) q).sum = bc := by rw [countN_sum _ _ hq, hl]
  refine ⟨ways_pos _, ?_⟩
  rcases hc with ⟨rfl, h6⟩ | ⟨rfl, h4⟩
  · exact ways_one (countN_len _ _) (by omega)
  · exact ways_four (by omega)
end
end Go.Proofs.Ytepbmgbomdekaaa
