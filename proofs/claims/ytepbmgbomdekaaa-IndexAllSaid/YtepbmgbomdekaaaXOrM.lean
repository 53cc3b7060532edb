/-
  IndexOrder: two cells exchanged (pure).
-/
import Derived.Test.YtepbmgbomdekaaaXRkM
namespace Go.Proofs.Ytepbmgbomdekaaa
open Go Go.RowKit

/-- Two of a list's cells exchanged. -/
def swapN (q : List Nat) (A B : Nat) : List Nat := (q.set A (q.getD B 0)).set B (q.getD A 0)
theorem swapN_len (q : List Nat) (A B : Nat) : (swapN q A B).length = q.length := by simp [swapN]
theorem swapN_zs (q : List Nat) (A B : Nat) : ((zs q).set A (((q.getD B 0 : Nat)) : Int)).set B (((q.getD A 0 : Nat)) : Int) = zs (swapN q A B) := by
  simp [swapN, zs, List.map_set]
theorem swapN_count (q : List Nat) {A B : Nat} (hA : A < q.length) (hB : B < q.length) (x : Nat) : (swapN q A B).count x = q.count x := by
  have h1 : 0 < q.count q[A] := List.count_pos_iff.2 (List.getElem_mem hA)
  unfold swapN
  rw [List.count_set (by simpa using hB), List.count_set hA, List.getElem_set]
  simp only [List.getD_eq_getElem?_getD, List.getElem?_eq_getElem hA, List.getElem?_eq_getElem hB, Option.getD_some]
  by_cases e : A = B
  · subst e
    rw [if_pos rfl]
    by_cases hx : q[A] = x
    · subst hx; simp; try omega
    · simp [hx]
  · rw [if_neg e]
    by_cases hx : q[A] = x
    · subst hx
      by_cases hy : q[B] = q[A]
      · simp [hy]; try omega
      · simp [hy]; try omega
    · by_cases hy : q[B] = x
      · simp [hx, hy]
      · simp [hx, hy]
theorem swapN_lt {q : List Nat} {A B m : Nat} (hA : A < q.length) (hB : B < q.length) (h : ∀ x ∈ q, x < m) : ∀ x ∈ swapN q A B, x < m := by
  intro x hx
  refine h x (List.count_pos_iff.1 ?_)
  rw [← swapN_count q hA hB]
  exact List.count_pos_iff.2 hx
theorem swapN_countN {q : List Nat} {A B : Nat} (m : Nat) (hA : A < q.length) (hB : B < q.length) : countN m (swapN q A B) = countN m q := by
  unfold countN
  simp only [swapN_count q hA hB]
theorem cmpL_zs : ∀ {q r : List Nat}, q.length = r.length → cmpL (zs q) (zs r) = cmpS q r
  | [], [], _ => rfl
  | [], _ :: _, h => by simp at h
  | _ :: _, [], h => by simp at h
  | a :: q, b :: r, h => by
    have ih := cmpL_zs (q := q) (r := r) (by simpa using h)
    show orI (cmpI (a : Int) (b : Int)) (cmpL (zs q) (zs r)) = cmpS (a :: q) (b :: r)
    rw [ih, show cmpS (a :: q) (b :: r) = if a < b then -1 else if b < a then 1 else cmpS q r from rfl]
    rcases Nat.lt_trichotomy a b with h1 | h1 | h1
    · rw [if_pos h1, show cmpI (a : Int) (b : Int) = -1 from if_pos (by omega)]; rfl
    · subst h1
      rw [if_neg (Nat.lt_irrefl _), if_neg (Nat.lt_irrefl _), show cmpI (a : Int) (a : Int) = 0 from (cmpI_ok.eq0 _ _).2 rfl]; rfl
    · rw [if_neg (by omega), if_pos h1, show cmpI (a : Int) (b : Int) = 1 from (by unfold cmpI; rw [if_neg (by omega), if_neg (by omega)])]; rfl
theorem fld_cmp {nk h : Nat} {q r : List Nat} (hl : q.length = r.length) : cmpP (fldP nk q h) (fldP nk r h) = cmpS q r := by
  have h0 : ∀ l : List Int, cmpL l l = 0 := fun l => (cmpL_ok.eq0 l l).2 rfl
  have h1 : ∀ x : Int, cmpI x x = 0 := fun x => (cmpI_ok.eq0 x x).2 rfl
  unfold cmpP fldP
  dsimp only
  rw [cmpL_zs hl, h0, h0, h1, h1]
  show orI (cmpS q r) 0 = cmpS q r
  unfold orI
  by_cases h : cmpS q r = 0
  · rw [if_pos h, h]
  · rw [if_neg h]
/-- What the ranks of a position and of one with two cells exchanged are. -/
theorem order_pure {bc nk h A B : Nat} {q : List Nat} (h1 : 1 ≤ nk) (h8 : h ≤ 8) (hl : q.length = bc) (hA : A < bc) (hB : B < bc) (hq : ∀ x ∈ q, x < 2 * nk + 1) :
    (∃ i k c, rankV bc 2 (blankK nk) (fldP nk q h) = (i, 0) ∧ rankV bc 2 (blankK nk) (fldP nk (swapN q A B) h) = (k, 0) ∧ cmpP (fldP nk q h) (fldP nk (swapN q A B) h) = c ∧ (i < k ↔ c < 0) ∧ (i = k ↔ c = 0)) ∨
    (rankV bc 2 (blankK nk) (fldP nk q h) = (0, 2) ∧ rankV bc 2 (blankK nk) (fldP nk (swapN q A B) h) = (0, 2)) := by
  have hA' : A < q.length := by omega
  have hB' : B < q.length := by omega
  have hl2 : (swapN q A B).length = bc := by rw [swapN_len]; exact hl
  have hq2 := swapN_lt hA' hB' hq
  have p1 := ranks_pure (h := h) h1 h8 hl hq
  have p2 := ranks_pure (h := h) h1 h8 hl2 hq2
  rw [swapN_countN (2 * nk + 1) hA' hB'] at p2
  have c1 := counts_countN hq
  have c2 := counts_countN hq2
  rw [swapN_countN (2 * nk + 1) hA' hB'] at c2
  have ho := rank_order c1 c2
  rcases p1 with ⟨w1, -, r1, -⟩ | ⟨w1, -, r1⟩ <;> rcases p2 with ⟨w2, -, r2, -⟩ | ⟨w2, -, r2⟩
  · refine .inl ⟨_, _, _, r1, r2, rfl, ?_, ?_⟩
    · rw [fld_cmp (by rw [swapN_len])]; exact ho.1
    · rw [fld_cmp (by rw [swapN_len])]; exact ho.2.1.trans ho.2.2.symm
  · omega
  · omega
  · exact .inr ⟨r1, r2⟩
end Go.Proofs.Ytepbmgbomdekaaa
