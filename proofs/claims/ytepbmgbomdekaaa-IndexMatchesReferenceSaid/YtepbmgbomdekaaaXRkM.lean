/-
  What size, rank and the position of a rank are, for a position of the law's board (no memory).
-/
import Derived.Test.YtepbmgbomdekaaaXBd
namespace Go.Proofs.Ytepbmgbomdekaaa
open Go Go.RowKit

/-- A position of a blank game. -/
def fldP (nk : Nat) (q : List Nat) (h : Nat) : PosS := ⟨zs q, List.replicate nk 0, (List.replicate nk 0).set (nk - 1) (h : Int), 1, 0⟩
theorem handB_zeros {nk : Nat} : handB (blankK nk) (List.replicate nk 0) = true := by
  unfold handB
  rw [List.length_replicate, blankK_len, decide_eq_true rfl, Bool.true_and, List.all_eq_true]
  intro j hj
  have hj : j < nk := by simpa using hj
  unfold handOk upToB
  rw [List.getElem?_replicate, if_pos hj]
  split <;> simp
theorem handB_last {nk h : Nat} (h1 : 1 ≤ nk) (h8 : h ≤ 8) : handB (blankK nk) ((List.replicate nk 0).set (nk - 1) (h : Int)) = true := by
  unfold handB
  rw [List.length_set, List.length_replicate, blankK_len, decide_eq_true rfl, Bool.true_and, List.all_eq_true]
  intro j hj
  have hj : j < nk := by simpa using hj
  unfold handOk upToB
  rw [List.getElem?_set]
  by_cases e : nk - 1 = j
  · subst e
    rw [if_pos rfl, if_pos (by simpa using hj), blankK_last h1]
    simp; omega
  · rw [if_neg e, List.getElem?_replicate, if_pos hj]
    split <;> simp
theorem fld_valid {bc nk h : Nat} {q : List Nat} (h1 : 1 ≤ nk) (h8 : h ≤ 8) (hl : q.length = bc) (hq : ∀ x ∈ q, x < 2 * nk + 1) : posB bc 2 (blankK nk) (fldP nk q h) = true := by
  unfold posB fldP
  dsimp only
  rw [zs_len, hl, decide_eq_true rfl, handB_zeros, handB_last h1 h8, show upToB 1 (2 ^ 2 - 1) = true from rfl, show upToB 0 1 = true from rfl]
  simp only [Bool.true_and, Bool.and_true]
  unfold allIn
  rw [List.all_eq_true]
  intro z hz
  obtain ⟨x, hx, rfl⟩ := List.mem_map.1 hz
  have := hq x hx
  unfold upToB
  rw [blankK_len]
  simp; omega
theorem fld_fit {bc nk h : Nat} {q : List Nat} (hb : bc ≤ 64) (h3 : nk ≤ 3) (hl : q.length = bc) : PosFit (fldP nk q h) := by
  unfold fldP
  exact ⟨by simp [zs_len, hl, maxLen]; omega, by simp [maxLen]; omega, by simp [maxLen]; omega⟩
theorem mat_fit {nk h : Nat} {q : List Nat} (h3 : nk ≤ 3) : PosFit (matS (2 * nk + 1) q (fldP nk q h)) := by
  unfold matS fldP
  exact ⟨by simp [zs_len, countN_len, maxLen]; omega, by simp [maxLen]; omega, by simp [maxLen]; omega⟩
/-- All three, where the material is small enough; and where it is not. -/
theorem ranks_pure {bc nk h : Nat} {q : List Nat} (h1 : 1 ≤ nk) (h8 : h ≤ 8) (hl : q.length = bc) (hq : ∀ x ∈ q, x < 2 * nk + 1) :
    (ways (countN (2 * nk + 1) q) ≤ 1099511627776 ∧ sizeV bc 2 (blankK nk) (matS (2 * nk + 1) q (fldP nk q h)) = (ways (countN (2 * nk + 1) q), 0) ∧ rankV bc 2 (blankK nk) (fldP nk q h) = (rankS (countN (2 * nk + 1) q) q, 0) ∧
      rankS (countN (2 * nk + 1) q) q < ways (countN (2 * nk + 1) q) ∧ atV bc 2 (blankK nk) (matS (2 * nk + 1) q (fldP nk q h)) ((rankS (countN (2 * nk + 1) q) q : Nat) : Int) = (fldP nk q h, 0)) ∨
    (1099511627776 < ways (countN (2 * nk + 1) q) ∧ sizeV bc 2 (blankK nk) (matS (2 * nk + 1) q (fldP nk q h)) = (0, 2) ∧ rankV bc 2 (blankK nk) (fldP nk q h) = (0, 2)) := by
  have hv := fld_valid h1 h8 hl hq
  have hm := mat_pos hv hl (by rw [blankK_len]; exact hq)
  rw [blankK_len] at hm
  have hc := counts_countN hq
  have hn : nats (matS (2 * nk + 1) q (fldP nk q h)).cells = countN (2 * nk + 1) q := nats_zs _
  have hn2 : nats (fldP nk q h).cells = q := nats_zs _
  have hs : ∀ v, sizeV bc 2 (blankK nk) (matS (2 * nk + 1) q (fldP nk q h)) = v ↔ (if ways (countN (2 * nk + 1) q) ≤ 1099511627776 then (ways (countN (2 * nk + 1) q), 0) else (0, 2)) = v := fun v => by
    unfold sizeV; rw [if_pos hm, hn]
  have hr : ∀ v, rankV bc 2 (blankK nk) (fldP nk q h) = v ↔ (if ways (countN (2 * nk + 1) q) ≤ 1099511627776 then (rankS (countN (2 * nk + 1) q) q, 0) else (0, 2)) = v := fun v => by
    unfold rankV; rw [if_pos hv, hn2, blankK_len]
  by_cases hw : ways (countN (2 * nk + 1) q) ≤ 1099511627776
  · refine .inl ⟨hw, by rw [hs, if_pos hw], by rw [hr, if_pos hw], rank_lt hc, ?_⟩
    have e : sizeV bc 2 (blankK nk) (matS (2 * nk + 1) q (fldP nk q h)) = (ways (countN (2 * nk + 1) q), 0) := by rw [hs, if_pos hw]
    have hlt := rank_lt hc
    unfold atV
    rw [e, if_pos rfl, if_pos ⟨by omega, by omega⟩, hn, Int.toNat_natCast, ← hl, at_rank hc]
    rfl
  · exact .inr ⟨by omega, by rw [hs, if_neg hw], by rw [hr, if_neg hw]⟩
end Go.Proofs.Ytepbmgbomdekaaa
