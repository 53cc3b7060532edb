/-
  What a list has that is closed under the steps both ways: the linked cells, and no other.
-/
import Derived.Test.YtccapadoeocebaaDoorPartsP
import Derived.Test.YtccapadoeocebaaDoorWalk
namespace Go.Proofs.YtccapadoeocebaaDoor
open Go Go.RowKit

/-- One cell is near the other, or the other near the one: it is a step both ways. -/
theorem near_adj {B : Brd} (hB : B.Ok) {n : Nat} (hn : B.cells = n) {x y : Nat} (hx : x < n) (hy : y < n) (hne : x ≠ y) : ((y : Int) ∈ nearS B x ∨ (x : Int) ∈ nearS B y) ↔ (y : Int) ∈ adjS B n x := by
  rw [mem_nearS hB, mem_nearS hB, adj_mem hB hn hx]
  constructor
  · rintro (⟨_, h⟩ | ⟨_, h⟩)
    · exact .inl h
    · exact .inr ⟨y, hy, h, rfl⟩
  · rintro (h | ⟨j, hj, h, e⟩)
    · exact .inl ⟨by omega, h⟩
    · obtain rfl : y = j := by omega
      exact .inr ⟨by omega, h⟩

theorem linked_closed {B : Brd} (hB : B.Ok) {n : Nat} (hn : B.cells = n) {a : Nat} (ha : a < n) {L : List Int} (h0 : (a : Int) ∈ L)
    (hl : ∀ x : Nat, (x : Int) ∈ L → Linked B n a x) (hc : ∀ x y : Nat, x < n → y < n → (x : Int) ∈ L → (y : Int) ∈ adjS B n x → (y : Int) ∈ L) (c : Nat) : (c : Int) ∈ L ↔ Linked B n a c := by
  refine ⟨hl c, fun ⟨k, hk⟩ => ?_⟩
  have hr := fun k x h => (dist_spec ha (adj_lt hB hn)).2.2.1 k x h
  have key : ∀ (k : Nat) (x : Int), Steps (adjS B n) a k x → x ∈ L := by
    intro k x hs
    induction hs with
    | here => exact h0
    | @on k x y hx hy ih =>
      have hxr := hr k x hx
      have hyr := hr (k + 1) _ (.on hx hy)
      obtain ⟨x', rfl⟩ := Int.eq_ofNat_of_zero_le hxr.1
      obtain ⟨y', rfl⟩ := Int.eq_ofNat_of_zero_le hyr.1
      exact hc x' y' (by omega) (by omega) ih hy
  exact key k c hk

/-- What holds of the list while it is walked: at its entry i, and there at the cell j. -/
structure Grow (B : Brd) (n a i j : Nat) (L : List Int) : Prop where
  h0 : (a : Int) ∈ L
  lk : ∀ x ∈ L, ∃ y : Nat, x = y ∧ y < n ∧ Linked B n a y
  nd : L.Nodup
  done : ∀ p, p < i → p < L.length → ∀ y : Nat, y < n → (y : Int) ∈ adjS B n (L[p]?.getD 0) → (y : Int) ∈ L
  part : i < L.length → ∀ y : Nat, y < j → (y : Int) ∈ adjS B n (L[i]?.getD 0) → (y : Int) ∈ L

theorem Grow.start {B : Brd} {n a : Nat} (ha : a < n) : Grow B n a 0 0 [(a : Int)] where
  h0 := by simp
  lk := fun x hx => ⟨a, by simpa using hx, ha, Linked.refl B n a⟩
  nd := by simp
  done := fun p hp => absurd hp (Nat.not_lt_zero _)
  part := fun _ y hy => absurd hy (Nat.not_lt_zero _)

theorem Grow.skip {B : Brd} {n a i j : Nat} {L : List Int} (h : Grow B n a i j L) (hs : (j : Int) ∈ L ∨ (j : Int) ∉ adjS B n (L[i]?.getD 0)) : Grow B n a i (j + 1) L where
  h0 := h.h0
  lk := h.lk
  nd := h.nd
  done := h.done
  part := fun hi y hy hm => by
    by_cases e : y = j
    · subst e
      exact hs.resolve_right fun h2 => h2 hm
    · exact h.part hi y (by omega) hm

theorem Grow.push {B : Brd} {n a i j : Nat} {L : List Int} (h : Grow B n a i j L) (hi : i < L.length) (hj : j < n) (hn : (j : Int) ∉ L) (hm : (j : Int) ∈ adjS B n (L[i]?.getD 0)) : Grow B n a i (j + 1) (L ++ [(j : Int)]) where
  h0 := List.mem_append_left _ h.h0
  lk := fun x hx => by
    rcases List.mem_append.1 hx with hx | hx
    · exact h.lk x hx
    · have hmem : L[i]?.getD 0 ∈ L := by
        rw [List.getElem?_eq_getElem hi]
        exact List.getElem_mem hi
      obtain ⟨y, e, hy, k, hk⟩ := h.lk _ hmem
      refine ⟨j, by simpa using hx, hj, k + 1, ?_⟩
      rw [← e] at hk
      exact .on hk hm
  nd := by
    rw [List.nodup_append]
    exact ⟨h.nd, by simp, fun x hx y hy e => by
      have : y = (j : Int) := by simpa using hy
      subst this; subst e; exact hn hx⟩
  done := fun p hp _ y hy hm2 => by
    have hpl : p < L.length := by omega
    rw [List.getElem?_append_left hpl] at hm2
    exact List.mem_append_left _ (h.done p hp hpl y hy hm2)
  part := fun _ y hy hm2 => by
    rw [List.getElem?_append_left hi] at hm2
    by_cases e : y = j
    · subst e; simp
    · exact List.mem_append_left _ (h.part hi y (by omega) hm2)

theorem Grow.next {B : Brd} {n a i : Nat} {L : List Int} (h : Grow B n a i n L) : Grow B n a (i + 1) 0 L where
  h0 := h.h0
  lk := h.lk
  nd := h.nd
  done := fun p hp hpl y hy hm => by
    by_cases e : p = i
    · subst e; exact h.part hpl y hy hm
    · exact h.done p (by omega) hpl y hy hm
  part := fun _ y hy => absurd hy (Nat.not_lt_zero _)

theorem Grow.len {B : Brd} {n a i j : Nat} {L : List Int} (h : Grow B n a i j L) : L.length ≤ n :=
  pigeon n L h.nd fun x hx => by
    obtain ⟨y, rfl, hy, _⟩ := h.lk x hx
    omega

theorem Grow.all {B : Brd} (hB : B.Ok) {n a i j : Nat} (hn : B.cells = n) (ha : a < n) {L : List Int} (h : Grow B n a i j L) (hi : L.length ≤ i) (c : Nat) : (c : Int) ∈ L ↔ Linked B n a c := by
  refine linked_closed hB hn ha h.h0 (fun x hx => ?_) (fun x y _ hy hx hm => ?_) c
  · obtain ⟨y, e, _, hl⟩ := h.lk x hx
    obtain rfl : x = y := by omega
    exact hl
  · obtain ⟨p, hp, e⟩ := List.getElem_of_mem hx
    refine h.done p (by omega) hp y hy ?_
    rw [List.getElem?_eq_getElem hp, Option.getD_some, e]
    exact hm
end Go.Proofs.YtccapadoeocebaaDoor
