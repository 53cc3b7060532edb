/-
  Without as lists: it is valid; no step of the cell remains, all others do; it is a part of its own; once more changes nothing.
-/
import Derived.Test.YtcpjkilnbhfpjaaDoorPartsP
import Derived.Test.YtcpjkilnbhfpjaaDoorWithoutB
import Derived.Test.YtcpjkilnbhfpjaaDoorRefValid
import Derived.Test.YtcpjkilnbhfpjaaDoorRefTo
namespace Go.Proofs.YtcpjkilnbhfpjaaDoor
open Go Go.RowKit

theorem outTo_get (c : Int) (row : List Int) : ∀ k, k ≤ row.length → ∀ j, j < row.length → (outTo c row k)[j]?.getD 0 = if j < k ∧ ((j : Int) = c ∨ row[j]?.getD 0 = c) then -1 else row[j]?.getD 0
  | 0, _, j, _ => by simp [outTo]
  | k + 1, hk, j, hj => by
    have ih := outTo_get c row k (by omega) j hj
    unfold outTo
    by_cases h : (k : Int) = c ∨ row[k]?.getD 0 = c
    · rw [if_pos h]
      by_cases e : k = j
      · subst e
        rw [List.getElem?_set_self (by rw [outTo_len]; omega), Option.getD_some, if_pos ⟨by omega, h⟩]
      · rw [List.getElem?_set_ne e, ih]
        by_cases h2 : j < k ∧ ((j : Int) = c ∨ row[j]?.getD 0 = c)
        · rw [if_pos h2, if_pos ⟨by omega, h2.2⟩]
        · rw [if_neg h2, if_neg (fun h3 => h2 ⟨by omega, h3.2⟩)]
    · rw [if_neg h, ih]
      by_cases h2 : j < k ∧ ((j : Int) = c ∨ row[j]?.getD 0 = c)
      · rw [if_pos h2, if_pos ⟨by omega, h2.2⟩]
      · rw [if_neg h2, if_neg (fun h3 => h2 ⟨by
          have := h3.1
          by_cases e : j = k
          · rw [e] at h3; exact absurd h3.2 h
          · omega, h3.2⟩)]
theorem outRow_len (c : Int) (row : List Int) : (outRow c row).length = row.length := outTo_len c row row.length
theorem outRow_get (c : Int) (row : List Int) {j : Nat} (hj : j < row.length) : (outRow c row)[j]?.getD 0 = if (j : Int) = c ∨ row[j]?.getD 0 = c then -1 else row[j]?.getD 0 := by
  unfold outRow
  rw [outTo_get c row row.length (Nat.le_refl _) j hj]
  by_cases h : (j : Int) = c ∨ row[j]?.getD 0 = c
  · rw [if_pos ⟨hj, h⟩, if_pos h]
  · rw [if_neg (fun h2 => h h2.2), if_neg h]

theorem without_row (B : Brd) (c : Int) {d : Nat} (hd : d < B.next.length) : (withoutS B c).next[d]?.getD [] = outRow c (B.next[d]?.getD []) := by
  unfold withoutS
  simp [hd]

theorem without_valid {B : Brd} (hv : validS B = true) (c : Int) : validS (withoutS B c) = true := by
  obtain ⟨hB, _, _⟩ := ok_of_valid hv
  unfold validS at hv ⊢
  simp only [Bool.and_eq_true, decide_eq_true_eq] at hv ⊢
  obtain ⟨⟨⟨⟨⟨h1, h2⟩, h3⟩, h4⟩, h5⟩, h6⟩ := hv
  have e1 : (withoutS B c).next.length = B.next.length := by simp [withoutS]
  refine ⟨⟨⟨⟨⟨h1, h2⟩, by omega⟩, by omega⟩, ?_⟩, by rw [e1]; exact h6⟩
  rw [List.all_eq_true]
  intro r hr
  obtain ⟨d, hd⟩ := List.getElem?_of_mem hr
  have hdl : d < B.next.length := by have := (List.getElem?_eq_some_iff.1 hd).1; omega
  have hrw := without_row B c hdl
  rw [hd, Option.getD_some] at hrw
  have hrl := hB.row d hdl
  subst hrw
  refine row_ent (by rw [outRow_len]; exact hrl) (fun j hj => ?_)
  rw [outRow_len] at hj
  rw [outRow_get c _ hj]
  have := hB.ent d j hdl (by omega)
  have h9 : (withoutS B c).cells = B.cells := rfl
  rw [h9]
  split <;> omega

theorem without_next {B : Brd} (hB : B.Ok) (c : Int) {d k : Nat} (hd : d < B.next.length) (hk : (k : Int) < B.cells) : nextS (withoutS B c) d k = if (k : Int) = c ∨ nextS B d k = c then -1 else nextS B d k := by
  have e1 : (withoutS B c).next.length = B.next.length := by simp [withoutS]
  have e2 : (withoutS B c).cells = B.cells := rfl
  have a1 : nextS B d k = (B.next[d]?.getD [])[k]?.getD 0 := by
    unfold nextS
    rw [if_pos (by omega)]
    rfl
  have a2 : nextS (withoutS B c) d k = ((withoutS B c).next[d]?.getD [])[k]?.getD 0 := by
    unfold nextS
    rw [if_pos (by rw [e1, e2]; omega)]
    rfl
  rw [a1, a2, without_row B c hd, outRow_get c _ (by have := hB.row d hd; omega)]

theorem without_again (B : Brd) (c : Int) : withoutS (withoutS B c) c = withoutS B c := by
  have key : ∀ row : List Int, outRow c (outRow c row) = outRow c row := by
    intro row
    apply List.ext_getElem (by rw [outRow_len, outRow_len])
    intro j h1 h2
    have hj : j < row.length := by rw [outRow_len] at h2; exact h2
    have g1 := outRow_get c (outRow c row) (j := j) h2
    rw [List.getElem?_eq_getElem h1, List.getElem?_eq_getElem h2, Option.getD_some, Option.getD_some] at g1
    have g2 := outRow_get c row hj
    rw [List.getElem?_eq_getElem h2, Option.getD_some] at g2
    rw [g1]
    by_cases h : (j : Int) = c ∨ (outRow c row)[j] = c
    · rw [if_pos h, g2]
      by_cases h3 : (j : Int) = c ∨ row[j]?.getD 0 = c
      · rw [if_pos h3]
      · exfalso
        rw [g2, if_neg h3] at h
        exact h3 h
    · rw [if_neg h]
  unfold withoutS
  simp only [List.map_map]
  congr 1
  exact List.map_congr_left (fun r _ => key r)

theorem without_steps {B : Brd} (hB : B.Ok) {n c : Nat} (hn : B.cells = n) {x : Nat} (hx : x < n) (z : Int) (h : z ∈ stepsS (withoutS B c) x) : x ≠ c ∧ z ≠ c := by
  have h1 := (mem_stepsS (withoutS B c) x z).1 h
  unfold stepB at h1
  simp only [List.any_eq_true, List.mem_range, decide_eq_true_eq] at h1
  obtain ⟨h0, d, hd, e⟩ := h1
  have e1 : (withoutS B c).next.length = B.next.length := by simp [withoutS]
  rw [without_next hB c (by omega) (by omega)] at e
  by_cases h2 : (x : Int) = c ∨ nextS B d x = c
  · rw [if_pos h2] at e; omega
  · rw [if_neg h2] at e
    exact ⟨fun e2 => h2 (.inl (by omega)), fun e2 => h2 (.inr (by omega))⟩

/-- The cell is a part of its own, and has no neighbors. -/
theorem without_alone {B : Brd} (hv : validS B = true) {n c : Nat} (hn : B.cells = n) (hc : c < n) : (partsS (withoutS B c))[c]?.getD 0 = c ∧ (∀ k : Nat, k < n → k ≠ c → (partsS (withoutS B c))[k]?.getD 0 ≠ c) ∧ nearS (withoutS B c) c = [] := by
  obtain ⟨hB, _, _⟩ := ok_of_valid hv
  have hW := (ok_of_valid (without_valid hv c)).1
  have hn' : (withoutS B c).cells = n := hn
  have hst := fun x (hx : x < n) z h => without_steps (c := c) hB hn (x := x) hx z h
  have hadj : ∀ x : Nat, x < n → ∀ z, z ∈ adjS (withoutS B c) n x → x ≠ c ∧ z ≠ c := by
    intro x hx z hz
    rcases (adj_mem hW hn' hx z).1 hz with h | ⟨j, hj, h, e⟩
    · exact hst x hx z h
    · have := hst j hj x h
      exact ⟨fun e2 => this.2 (by omega), fun e2 => this.1 (by omega)⟩
  have hlk : ∀ p x : Nat, p < n → Linked (withoutS B c) n p x → x = c → p = c := by
    intro p x hp ⟨k, hk⟩ e
    subst e
    rcases steps_last hk with ⟨_, e⟩ | ⟨m, y, _, hy, hm⟩
    · omega
    · have hyr := (dist_spec hp (adj_lt hW hn')).2.2.1 m y hy
      obtain ⟨y', rfl⟩ := Int.eq_ofNat_of_zero_le hyr.1
      exact absurd rfl (hadj y' (by omega) _ hm).2
  refine ⟨?_, ?_, ?_⟩
  · obtain ⟨p, hp, h1, h2, _⟩ := parts_spec hW hn' hc
    rw [h1, hlk p c (by omega) h2 rfl]
  · intro k hk hkc h
    obtain ⟨p, hp, h1, h2, _⟩ := parts_spec hW hn' hk
    rw [h1] at h
    obtain rfl : p = c := by omega
    exact hkc (hlk k p hk (h2.symm hW hn' (by omega)) rfl)
  · rw [List.eq_nil_iff_forall_not_mem]
    intro z hz
    exact (hst c hc z ((mem_nearS hW).1 hz).2).1 rfl

theorem toS_next {B : Brd} (hB : B.Ok) {d : Nat} (hd : d < B.next.length) (c : Int) : toS B 0 d c = nextS B d c := by
  have ht := hB.turn
  have hm : meantS B.turn 0 d = d := by
    unfold meantS
    rw [if_neg (by omega), if_neg (by omega)]
  unfold toS
  rw [hm]
theorem without_to {B : Brd} (hv : validS B = true) (c : Int) {d k : Nat} (hd : d < B.next.length) (hk : (k : Int) < B.cells) : toS (withoutS B c) 0 d k = if (k : Int) = c ∨ toS B 0 d k = c then -1 else toS B 0 d k := by
  obtain ⟨hB, _, _⟩ := ok_of_valid hv
  have hW := (ok_of_valid (without_valid hv c)).1
  have e1 : (withoutS B c).next.length = B.next.length := by simp [withoutS]
  rw [toS_next hB hd, toS_next hW (by omega), without_next hB c hd hk]
end Go.Proofs.YtcpjkilnbhfpjaaDoor
