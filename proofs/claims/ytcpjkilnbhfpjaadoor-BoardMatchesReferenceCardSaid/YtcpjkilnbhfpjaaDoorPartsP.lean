/-
  Parts as lists: each cell has the least one of those that are linked with it.
-/
import Derived.Test.YtcpjkilnbhfpjaaDoorFarP
import Derived.Test.YtcpjkilnbhfpjaaDoorParts
namespace Go.Proofs.YtcpjkilnbhfpjaaDoor
open Go Go.RowKit

theorem addAt_mem {rows : List (List Int)} {i : Nat} (hi : i < rows.length) (x z : Int) (e : Nat) : z ∈ (addAt rows i x)[e]?.getD [] ↔ z ∈ rows[e]?.getD [] ∨ (e = i ∧ z = x) := by
  unfold addAt
  by_cases h : i = e
  · subst h
    rw [List.getElem?_set_self hi, Option.getD_some, List.mem_append, List.mem_singleton]
    exact ⟨fun h => h.imp id fun h => ⟨rfl, h⟩, fun h => h.imp id fun h => h.2⟩
  · rw [List.getElem?_set_ne h]
    exact ⟨.inl, fun h2 => h2.resolve_right fun h3 => h h3.1.symm⟩

theorem joinStep_mem {rows : List (List Int)} {n c : Nat} (hl : rows.length = n) (hc : c < n) {t : Int} (ht : 0 ≤ t ∧ t < n) (z : Int) (e : Nat) : z ∈ (joinStep c rows t)[e]?.getD [] ↔ z ∈ rows[e]?.getD [] ∨ (e = c ∧ z = t) ∨ ((e : Int) = t ∧ z = c) := by
  unfold joinStep
  rw [addAt_mem (by simp [addAt]; omega), addAt_mem (by omega)]
  constructor
  · rintro ((h | h) | ⟨h1, h2⟩)
    · exact .inl h
    · exact .inr (.inl h)
    · exact .inr (.inr ⟨by omega, h2⟩)
  · rintro (h | h | ⟨h1, h2⟩)
    · exact .inl (.inl h)
    · exact .inl (.inr h)
    · exact .inr ⟨by omega, h2⟩

theorem joinFold_mem {n c : Nat} (hc : c < n) : ∀ (l : List Int) (rows : List (List Int)), rows.length = n → (∀ x ∈ l, 0 ≤ x ∧ x < (n : Int)) → ∀ (z : Int) (e : Nat), z ∈ (l.foldl (joinStep c) rows)[e]?.getD [] ↔ z ∈ rows[e]?.getD [] ∨ (e = c ∧ z ∈ l) ∨ ((e : Int) ∈ l ∧ z = c)
  | [], _, _, _, z, e => by simp
  | t :: l, rows, hl, hin, z, e => by
    rw [List.foldl_cons, joinFold_mem hc l _ (by simp [joinStep, addAt, hl]) (fun x hx => hin x (List.mem_cons_of_mem _ hx)), joinStep_mem hl hc (hin t (by simp))]
    simp only [List.mem_cons]
    constructor
    · rintro ((h | ⟨h1, h2⟩ | ⟨h1, h2⟩) | ⟨h1, h2⟩ | ⟨h1, h2⟩)
      · exact .inl h
      · exact .inr (.inl ⟨h1, .inl h2⟩)
      · exact .inr (.inr ⟨.inl h1, h2⟩)
      · exact .inr (.inl ⟨h1, .inr h2⟩)
      · exact .inr (.inr ⟨.inr h1, h2⟩)
    · rintro (h | ⟨h1, h2 | h2⟩ | ⟨h1 | h1, h2⟩)
      · exact .inl (.inl h)
      · exact .inl (.inr (.inl ⟨h1, h2⟩))
      · exact .inr (.inl ⟨h1, h2⟩)
      · exact .inl (.inr (.inr ⟨h1, h2⟩))
      · exact .inr (.inr ⟨h1, h2⟩)

theorem joinTo_mem {B : Brd} (hB : B.Ok) {n : Nat} (hn : B.cells = n) : ∀ k, k ≤ n → ∀ (z : Int) (e : Nat), z ∈ (joinTo B n k)[e]?.getD [] ↔ (e < k ∧ z ∈ stepsS B e) ∨ (∃ j : Nat, j < k ∧ (e : Int) ∈ stepsS B j ∧ z = j)
  | 0, _, z, e => by
    have : (joinTo B n 0)[e]?.getD [] = [] := by
      unfold joinTo
      by_cases h : e < n
      · simp [h]
      · rw [List.getElem?_eq_none (by simpa using h)]; rfl
    rw [this]
    simp
  | k + 1, hk, z, e => by
    unfold joinTo
    rw [joinFold_mem (c := k) hk (stepsS B k) _ (joinTo_ok hB hn k (by omega)).len (by rw [← hn]; exact stepsS_in hB k), joinTo_mem hB hn k (by omega)]
    constructor
    · rintro ((⟨h1, h2⟩ | ⟨j, h1, h2, h3⟩) | ⟨rfl, h2⟩ | ⟨h1, h2⟩)
      · exact .inl ⟨by omega, h2⟩
      · exact .inr ⟨j, by omega, h2, h3⟩
      · exact .inl ⟨by omega, h2⟩
      · exact .inr ⟨k, by omega, h1, h2⟩
    · rintro (⟨h1, h2⟩ | ⟨j, h1, h2, h3⟩)
      · by_cases e1 : e = k
        · subst e1; exact .inr (.inl ⟨rfl, h2⟩)
        · exact .inl (.inl ⟨by omega, h2⟩)
      · by_cases e1 : j = k
        · subst e1; exact .inr (.inr ⟨h2, h3⟩)
        · exact .inl (.inr ⟨j, by omega, h2, h3⟩)

/-- The cells that a step joins with e. -/
theorem adj_mem {B : Brd} (hB : B.Ok) {n : Nat} (hn : B.cells = n) {e : Nat} (he : e < n) (z : Int) : z ∈ adjS B n e ↔ z ∈ stepsS B e ∨ (∃ j : Nat, j < n ∧ (e : Int) ∈ stepsS B j ∧ z = j) := by
  unfold adjS
  rw [Int.toNat_natCast, joinTo_mem hB hn n (Nat.le_refl _)]
  exact ⟨fun h => h.imp And.right id, fun h => h.imp (fun h => ⟨he, h⟩) id⟩

theorem adj_lt {B : Brd} (hB : B.Ok) {n : Nat} (hn : B.cells = n) : ∀ x : Nat, x < n → ∀ z ∈ adjS B n x, 0 ≤ z ∧ z < n := fun x hx z hz => by
  rcases (adj_mem hB hn hx z).1 hz with h | ⟨j, hj, _, rfl⟩
  · exact stepsS_lt hB hn x hx z h
  · omega

theorem adj_symm {B : Brd} (hB : B.Ok) {n : Nat} (hn : B.cells = n) {x y : Nat} (hx : x < n) (hy : y < n) (h : (y : Int) ∈ adjS B n x) : (x : Int) ∈ adjS B n y := by
  rw [adj_mem hB hn hx] at h
  rw [adj_mem hB hn hy]
  rcases h with h | ⟨j, hj, h, e⟩
  · exact .inr ⟨x, hx, h, rfl⟩
  · obtain rfl : y = j := by omega
    exact .inl h

/-- Two cells are linked. -/
def Linked (B : Brd) (n a c : Nat) : Prop := ∃ k, Steps (adjS B n) a k c

theorem steps_trans {adj : Int → List Int} {a : Int} {k : Nat} {b : Int} (h : Steps adj a k b) : ∀ {m : Nat} {c : Int}, Steps adj b m c → ∃ p, Steps adj a p c := by
  intro m c h2
  induction h2 with
  | here => exact ⟨k, h⟩
  | on _ hy ih => obtain ⟨p, hp⟩ := ih; exact ⟨p + 1, .on hp hy⟩

theorem Linked.refl (B : Brd) (n a : Nat) : Linked B n a a := ⟨0, .here⟩
theorem Linked.trans {B : Brd} {n a b c : Nat} (h : Linked B n a b) (h2 : Linked B n b c) : Linked B n a c := by
  obtain ⟨k, hk⟩ := h
  obtain ⟨m, hm⟩ := h2
  exact steps_trans hk hm
theorem Linked.symm {B : Brd} (hB : B.Ok) {n : Nat} (hn : B.cells = n) {a c : Nat} (ha : a < n) (h : Linked B n a c) : Linked B n c a := by
  obtain ⟨k, hk⟩ := h
  have hr := fun k x h => (dist_spec ha (adj_lt hB hn)).2.2.1 k x h
  have key : ∀ (k : Nat) (x : Int), Steps (adjS B n) a k x → ∀ x' : Nat, x = x' → ∃ p, Steps (adjS B n) x' p a := by
    intro k x hs
    induction hs with
    | here => intro x' e; rw [← e]; exact ⟨0, .here⟩
    | @on k x y hx hy ih =>
      intro y' e
      subst e
      have hxr := hr k x hx
      obtain ⟨x', rfl⟩ := Int.eq_ofNat_of_zero_le hxr.1
      have hyr := hr (k + 1) _ (.on hx hy)
      obtain ⟨p, hp⟩ := ih x' rfl
      exact steps_trans (.on .here (adj_symm hB hn (by omega) (by omega) hy)) hp
  exact key k c hk c rfl

theorem Linked.lt {B : Brd} (hB : B.Ok) {n : Nat} (hn : B.cells = n) {a c : Nat} (ha : a < n) (h : Linked B n a c) : c < n := by
  obtain ⟨k, hk⟩ := h
  have := (dist_spec ha (adj_lt hB hn)).2.2.1 k c hk
  omega

theorem linked_dist {B : Brd} (hB : B.Ok) {n : Nat} (hn : B.cells = n) {a c : Nat} (ha : a < n) (hc : c < n) : 0 ≤ (distS (adjS B n) n a)[c]?.getD 0 ↔ Linked B n a c := by
  obtain ⟨_, h2, h3, _⟩ := dist_spec ha (adj_lt hB hn)
  refine ⟨fun h => ⟨_, h2 c hc h⟩, fun ⟨k, hk⟩ => ?_⟩
  have := h3 k c hk
  simpa using this.2.2.1

theorem markTo_get (c : Nat) (dist parts : List Int) {n : Nat} (hl : parts.length = n) : ∀ k, k ≤ n → ∀ x, x < n → (markTo c dist parts k)[x]?.getD 0 = if x < k ∧ 0 ≤ dist[x]?.getD 0 then (c : Int) else parts[x]?.getD 0
  | 0, _, x, _ => by simp [markTo]
  | k + 1, hk, x, hx => by
    have ih := markTo_get c dist parts hl k (by omega) x hx
    unfold markTo
    by_cases h : 0 ≤ dist[k]?.getD 0
    · rw [if_pos h]
      by_cases e : k = x
      · subst e
        rw [List.getElem?_set_self (by rw [markTo_len]; omega), Option.getD_some, if_pos ⟨by omega, h⟩]
      · rw [List.getElem?_set_ne e, ih]
        by_cases hx2 : x < k ∧ 0 ≤ dist[x]?.getD 0
        · rw [if_pos hx2, if_pos ⟨by omega, hx2.2⟩]
        · rw [if_neg hx2, if_neg (fun h => hx2 ⟨by omega, h.2⟩)]
    · rw [if_neg h, ih]
      by_cases hx2 : x < k ∧ 0 ≤ dist[x]?.getD 0
      · rw [if_pos hx2, if_pos ⟨by omega, hx2.2⟩]
      · rw [if_neg hx2, if_neg (fun h2 => hx2 ⟨by
          have := h2.1
          by_cases e : x = k
          · rw [e] at h2; exact absurd h2.2 h
          · omega, h2.2⟩)]

theorem partsTo_ok {B : Brd} (hB : B.Ok) {n : Nat} (hn : B.cells = n) : ∀ k, k ≤ n → ∀ x, x < n → ((partsTo B n k)[x]?.getD 0 = -1 ∧ ∀ p, p < k → ¬ Linked B n p x) ∨ (∃ p : Nat, p < k ∧ (partsTo B n k)[x]?.getD 0 = p ∧ Linked B n p x ∧ ∀ q, q < p → ¬ Linked B n q x)
  | 0, _, x, hx => .inl ⟨by simp [partsTo, hx], fun p hp => by omega⟩
  | k + 1, hk, x, hx => by
    have ih := partsTo_ok hB hn k (by omega)
    unfold partsTo
    by_cases h : 0 ≤ (partsTo B n k)[k]?.getD 0
    · rw [if_pos h]
      obtain ⟨p, hp, _, hpl, _⟩ := (ih k (by omega)).resolve_left (fun h2 => by omega)
      rcases ih x hx with ⟨h1, h2⟩ | ⟨q, hq, h3⟩
      · refine .inl ⟨h1, fun p' hp' hl => ?_⟩
        by_cases e : p' = k
        · subst e; exact h2 p hp (hpl.trans hl)
        · exact h2 p' (by omega) hl
      · exact .inr ⟨q, by omega, h3⟩
    · rw [if_neg h]
      have hno : ∀ p, p < k → ¬ Linked B n p k := by
        rcases ih k (by omega) with ⟨_, h2⟩ | ⟨p, hp, h2, _⟩
        · exact h2
        · rw [h2] at h; omega
      rw [markTo_get k _ _ (partsTo_len B n k) n (Nat.le_refl _) x hx]
      by_cases hl : Linked B n k x
      · rw [if_pos ⟨hx, (linked_dist hB hn (by omega) hx).2 hl⟩]
        refine .inr ⟨k, by omega, rfl, hl, fun q hq hql => hno q hq (hql.trans (hl.symm hB hn (by omega)))⟩
      · rw [if_neg (fun h2 => hl ((linked_dist hB hn (by omega) hx).1 h2.2))]
        rcases ih x hx with ⟨h1, h2⟩ | ⟨q, hq, h3⟩
        · refine .inl ⟨h1, fun p' hp' => ?_⟩
          by_cases e : p' = k
          · subst e; exact hl
          · exact h2 p' (by omega)
        · exact .inr ⟨q, by omega, h3⟩

/-- Parts: the least cell that is linked with each one. -/
theorem parts_spec {B : Brd} (hB : B.Ok) {n : Nat} (hn : B.cells = n) {x : Nat} (hx : x < n) : ∃ p : Nat, p ≤ x ∧ (partsS B)[x]?.getD 0 = p ∧ Linked B n p x ∧ ∀ q, q < p → ¬ Linked B n q x := by
  have h := partsTo_ok hB hn n (Nat.le_refl _) x hx
  have e : partsS B = partsTo B n n := by unfold partsS; rw [hn]; rfl
  rw [e]
  rcases h with ⟨_, h2⟩ | ⟨p, _, h1, h2, h3⟩
  · exact absurd (Linked.refl B n x) (h2 x hx)
  · exact ⟨p, Nat.le_of_not_lt fun hlt => h3 x hlt (Linked.refl B n x), h1, h2, h3⟩
theorem parts_len {B : Brd} {n : Nat} (hn : B.cells = n) : (partsS B).length = n := by
  unfold partsS; rw [hn]; exact partsTo_len B n n
end Go.Proofs.YtcpjkilnbhfpjaaDoor
