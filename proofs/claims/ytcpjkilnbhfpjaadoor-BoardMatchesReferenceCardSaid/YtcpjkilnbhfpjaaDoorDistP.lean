/-
  distances as a list: the least numbers of steps.
-/
import Derived.Test.YtcpjkilnbhfpjaaDoorParts
namespace Go.Proofs.YtcpjkilnbhfpjaaDoor
open Go Go.RowKit

/-- One comes from a to c by k steps. -/
inductive Steps (adj : Int → List Int) (a : Int) : Nat → Int → Prop where
  | here : Steps adj a 0 a
  | on {k : Nat} {x y : Int} : Steps adj a k x → y ∈ adj x → Steps adj a (k + 1) y

/-- What holds of the distances from a: q are the cells that have not been left yet. -/
structure BfsOk (adj : Int → List Int) (n : Nat) (a : Int) (far q : List Int) : Prop where
  ok : FarOk n far q
  real : ∀ x : Nat, x < n → 0 ≤ far[x]?.getD 0 → Steps adj a (far[x]?.getD 0).toNat x
  low : ∀ x : Nat, x < n → -1 ≤ far[x]?.getD 0
  start : far[a.toNat]?.getD 0 = 0
  done : ∀ x : Nat, x < n → 0 ≤ far[x]?.getD 0 → ¬ (x : Int) ∈ q → ∀ y ∈ adj x, 0 ≤ far[y.toNat]?.getD 0 ∧ far[y.toNat]?.getD 0 ≤ far[x]?.getD 0 + 1
  sorted : q.Pairwise fun x y => far[x.toNat]?.getD 0 ≤ far[y.toNat]?.getD 0
  near : ∀ h ∈ q.head?, ∀ x : Nat, x < n → far[x]?.getD 0 ≤ far[h.toNat]?.getD 0 + 1

/-- What holds while the cell c is being left: done are the cells before rest. -/
structure MidOk (adj : Int → List Int) (n : Nat) (a c : Int) (rest far q : List Int) : Prop where
  ok : FarOk n far q
  real : ∀ x : Nat, x < n → 0 ≤ far[x]?.getD 0 → Steps adj a (far[x]?.getD 0).toNat x
  low : ∀ x : Nat, x < n → -1 ≤ far[x]?.getD 0
  start : far[a.toNat]?.getD 0 = 0
  cin : 0 ≤ c ∧ c < n ∧ 0 ≤ far[c.toNat]?.getD 0
  done : ∀ x : Nat, x < n → 0 ≤ far[x]?.getD 0 → ¬ (x : Int) ∈ q → (x : Int) ≠ c → ∀ y ∈ adj x, 0 ≤ far[y.toNat]?.getD 0 ∧ far[y.toNat]?.getD 0 ≤ far[x]?.getD 0 + 1
  mine : ∀ y ∈ adj c, y ∈ rest ∨ (0 ≤ far[y.toNat]?.getD 0 ∧ far[y.toNat]?.getD 0 ≤ far[c.toNat]?.getD 0 + 1)
  sorted : q.Pairwise fun x y => far[x.toNat]?.getD 0 ≤ far[y.toNat]?.getD 0
  above : ∀ x ∈ q, far[c.toNat]?.getD 0 ≤ far[x.toNat]?.getD 0
  near : ∀ x : Nat, x < n → far[x]?.getD 0 ≤ far[c.toNat]?.getD 0 + 1

theorem mid_step {adj : Int → List Int} {n : Nat} {a c y : Int} {rest far q : List Int} (hin : ∀ x : Nat, x < n → ∀ z ∈ adj x, 0 ≤ z ∧ z < n) (h : MidOk adj n a c (y :: rest) far q) (hy : y ∈ adj c) :
    MidOk adj n a c rest (bfsStep c (far, q) y).1 (bfsStep c (far, q) y).2 := by
  have hcr := h.cin
  obtain ⟨c, rfl⟩ := Int.eq_ofNat_of_zero_le hcr.1
  have hcn : c < n := by omega
  have hyr := hin c hcn y hy
  obtain ⟨y, rfl⟩ := Int.eq_ofNat_of_zero_le hyr.1
  have hyn : y < n := by omega
  have hlen := h.ok.len
  have hok := (bfsStep_ok h.ok (c := (c : Int)) ⟨by omega, by omega⟩ hcr.2.2 hyr)
  unfold bfsStep at hok ⊢
  simp only [Int.toNat_natCast] at hok ⊢ hcr
  by_cases hs : far[y]?.getD 0 < 0
  · rw [if_pos hs] at hok ⊢
    have hcy : c ≠ y := fun e => by subst e; omega
    have hget : ∀ x : Nat, (far.set y (far[c]?.getD 0 + 1))[x]?.getD 0 = if x = y then far[c]?.getD 0 + 1 else far[x]?.getD 0 := by
      intro x
      by_cases e : x = y
      · subst e; rw [if_pos rfl, List.getElem?_set_self (by omega), Option.getD_some]
      · rw [if_neg e, List.getElem?_set_ne (fun h => e h.symm)]
    have hcg : (far.set y (far[c]?.getD 0 + 1))[c]?.getD 0 = far[c]?.getD 0 := by rw [hget, if_neg hcy]
    have hyq : ¬ (y : Int) ∈ q := fun hm => by have := h.ok.qset _ hm; simp only [Int.toNat_natCast] at this; omega
    have hmono : ∀ x : Nat, 0 ≤ far[x]?.getD 0 → (far.set y (far[c]?.getD 0 + 1))[x]?.getD 0 = far[x]?.getD 0 := by
      intro x hx
      rw [hget, if_neg (fun e => by subst e; omega)]
    refine ⟨hok.1, ?_, ?_, by rw [hmono _ (by rw [h.start]; exact Int.le_refl _)]; exact h.start, ⟨by omega, by omega, by simp only [Int.toNat_natCast]; rw [hcg]; omega⟩, ?_, ?_, ?_, ?_, ?_⟩
    · intro x hx h0
      rw [hget] at h0 ⊢
      by_cases e : x = y
      · subst e
        rw [if_pos rfl]
        have h1 := h.real c hcn hcr.2.2
        have : (far[c]?.getD 0 + 1).toNat = (far[c]?.getD 0).toNat + 1 := by omega
        rw [this]
        exact .on h1 hy
      · rw [if_neg e] at h0 ⊢
        exact h.real x hx h0
    · intro x hx
      rw [hget]
      have := h.low x hx
      split <;> omega
    · intro x hx h0 hq hxc z hz
      have hxy : x ≠ y := fun e => hq (by rw [e]; simp)
      have hxq : ¬ (x : Int) ∈ q := fun hm => hq (List.mem_append_left _ hm)
      rw [hget, if_neg hxy] at h0
      have hd := h.done x hx h0 hxq hxc z hz
      rw [hmono _ hd.1, hget x, if_neg hxy]
      exact hd
    · intro z hz
      simp only [Int.toNat_natCast]
      rw [hcg]
      rcases h.mine z hz with hm | hm
      · rcases List.mem_cons.1 hm with rfl | hm
        · right
          simp only [Int.toNat_natCast]
          rw [hget, if_pos rfl]
          omega
        · exact .inl hm
      · right
        simp only [Int.toNat_natCast] at hm
        rw [hmono _ hm.1]
        exact hm
    · refine List.pairwise_append.2 ⟨?_, by simp, ?_⟩
      · exact h.sorted.imp_of_mem (fun {x z} hx hz hle => by rw [hmono _ (h.ok.qset x hx), hmono _ (h.ok.qset z hz)]; exact hle)
      · intro x hx z hz
        rw [List.mem_singleton.1 hz]
        simp only [Int.toNat_natCast]
        rw [hmono _ (h.ok.qset x hx), hget y, if_pos rfl]
        have hxr := h.ok.qin x hx
        have := h.near x.toNat (by omega)
        simp only [Int.toNat_natCast] at this
        exact this
    · intro x hx
      simp only [Int.toNat_natCast]
      rw [hcg]
      rcases List.mem_append.1 hx with hx | hx
      · rw [hmono _ (h.ok.qset x hx)]
        have := h.above x hx
        simpa only [Int.toNat_natCast] using this
      · rw [List.mem_singleton.1 hx]
        simp only [Int.toNat_natCast]
        rw [hget, if_pos rfl]
        omega
    · intro x hx
      simp only [Int.toNat_natCast]
      rw [hcg, hget]
      have := h.near x hx
      simp only [Int.toNat_natCast] at this
      split <;> omega
  · rw [if_neg hs] at hok ⊢
    refine ⟨h.ok, h.real, h.low, h.start, h.cin, h.done, ?_, h.sorted, h.above, h.near⟩
    intro z hz
    rcases h.mine z hz with hm | hm
    · rcases List.mem_cons.1 hm with rfl | hm
      · right
        have := h.near y hyn
        simp only [Int.toNat_natCast] at this ⊢
        omega
      · exact .inl hm
    · exact .inr hm

theorem mid_fold {adj : Int → List Int} {n : Nat} {a c : Int} (hin : ∀ x : Nat, x < n → ∀ z ∈ adj x, 0 ≤ z ∧ z < n) : ∀ (rest far q : List Int), (∀ y ∈ rest, y ∈ adj c) → MidOk adj n a c rest far q →
    MidOk adj n a c [] (rest.foldl (bfsStep c) (far, q)).1 (rest.foldl (bfsStep c) (far, q)).2
  | [], _, _, _, h => h
  | y :: rest, far, q, hr, h => mid_fold hin rest _ _ (fun z hz => hr z (List.mem_cons_of_mem _ hz)) (mid_step hin h (hr y (by simp)))

theorem bfs_one {adj : Int → List Int} {n : Nat} {a c : Int} {far q : List Int} (hin : ∀ x : Nat, x < n → ∀ z ∈ adj x, 0 ≤ z ∧ z < n) (h : BfsOk adj n a far (c :: q)) :
    BfsOk adj n a ((adj c).foldl (bfsStep c) (far, q)).1 ((adj c).foldl (bfsStep c) (far, q)).2 := by
  have hc := h.ok.qin c (by simp)
  have hcs := h.ok.qset c (by simp)
  have hs := List.pairwise_cons.1 h.sorted
  have hm : MidOk adj n a c (adj c) far q := by
    refine ⟨⟨h.ok.len, fun x hx => h.ok.qin x (List.mem_cons_of_mem _ hx), fun x hx => h.ok.qset x (List.mem_cons_of_mem _ hx), h.ok.big⟩, h.real, h.low, h.start, ⟨hc.1, hc.2, hcs⟩, ?_, fun y hy => .inl hy, hs.2, hs.1, h.near c (by simp)⟩
    intro x hx h0 hq hxc y hy
    exact h.done x hx h0 (fun hm => by
      rcases List.mem_cons.1 hm with e | e
      · exact hxc e
      · exact hq e) y hy
  have hf := mid_fold hin (adj c) far q (fun _ h => h) hm
  refine ⟨hf.ok, hf.real, hf.low, hf.start, ?_, hf.sorted, ?_⟩
  · intro x hx h0 hq y hy
    by_cases e : (x : Int) = c
    · subst e
      rcases hf.mine y hy with hm | hm
      · cases hm
      · simpa only [Int.toNat_natCast] using hm
    · exact hf.done x hx h0 hq e y hy
  · intro hd hhd x hx
    have h1 := hf.near x hx
    have h2 := hf.above hd (List.mem_of_mem_head? hhd)
    omega

theorem bfs_all {adj : Int → List Int} {n : Nat} {a : Int} (hin : ∀ x : Nat, x < n → ∀ z ∈ adj x, 0 ≤ z ∧ z < n) : ∀ (k : Nat) (far q : List Int), BfsOk adj n a far q → unset far + q.length ≤ k →
    BfsOk adj n a (bfsGo adj k far q) [] 
  | 0, far, q, h, hk => by
    have : q = [] := List.eq_nil_of_length_eq_zero (by omega)
    subst this
    exact h
  | k + 1, far, [], h, _ => h
  | k + 1, far, c :: q, h, hk => by
    rw [bfsGo]
    have hc := h.ok.qin c (by simp)
    obtain ⟨c', rfl⟩ := Int.eq_ofNat_of_zero_le hc.1
    refine bfs_all hin k _ _ (bfs_one hin h) ?_
    have := (bfsFold_ok (n := n) (c := (c' : Int)) hc (adj c') far q (hin c' (by omega)) ⟨h.ok.len, fun x hx => h.ok.qin x (List.mem_cons_of_mem _ hx), fun x hx => h.ok.qset x (List.mem_cons_of_mem _ hx), h.ok.big⟩ (h.ok.qset _ (by simp))).2.2
    simp only [List.length_cons] at hk
    omega

/-- distances: -1 for what is not reached, else the least number of steps. -/
theorem dist_spec {adj : Int → List Int} {n fr : Nat} (hfr : fr < n) (hin : ∀ x : Nat, x < n → ∀ z ∈ adj x, 0 ≤ z ∧ z < n) :
    (∀ x : Nat, x < n → -1 ≤ (distS adj n fr)[x]?.getD 0) ∧ (∀ x : Nat, x < n → 0 ≤ (distS adj n fr)[x]?.getD 0 → Steps adj fr ((distS adj n fr)[x]?.getD 0).toNat x) ∧
      (∀ (k : Nat) (x : Int), Steps adj fr k x → 0 ≤ x ∧ x < n ∧ 0 ≤ (distS adj n fr)[x.toNat]?.getD 0 ∧ (distS adj n fr)[x.toNat]?.getD 0 ≤ k) ∧ (distS adj n fr)[fr]?.getD 0 = 0 := by
  have hs := farOk_start n fr hfr
  have hget : ∀ x : Nat, x < n → ((List.replicate n (-1 : Int)).set fr 0)[x]?.getD 0 = if x = fr then 0 else -1 := by
    intro x hx
    by_cases e : x = fr
    · subst e; rw [if_pos rfl, List.getElem?_set_self (by simpa using hx), Option.getD_some]
    · rw [if_neg e, List.getElem?_set_ne (fun h => e h.symm), List.getElem?_replicate, if_pos hx, Option.getD_some]
  have h0 : BfsOk adj n fr ((List.replicate n (-1 : Int)).set fr 0) [(fr : Int)] := by
    refine ⟨hs.1, ?_, ?_, ?_, ?_, by simp, ?_⟩
    · intro x hx h
      rw [hget x hx] at h ⊢
      by_cases e : x = fr
      · subst e; rw [if_pos rfl]; exact .here
      · rw [if_neg e] at h; omega
    · intro x hx
      rw [hget x hx]; split <;> omega
    · rw [Int.toNat_natCast, hget fr hfr, if_pos rfl]
    · intro x hx h hq
      rw [hget x hx] at h
      by_cases e : x = fr
      · exact absurd (by rw [e]; simp) hq
      · rw [if_neg e] at h; omega
    · intro hd hhd x hx
      simp only [List.head?_cons, Option.mem_def, Option.some.injEq] at hhd
      subst hhd
      rw [Int.toNat_natCast, hget x hx, hget fr hfr, if_pos rfl]
      split <;> omega
  have hf : BfsOk adj n fr (distS adj n fr) [] := bfs_all hin (n + 1) _ _ h0 (by simp only [List.length_singleton]; omega)
  refine ⟨hf.low, hf.real, ?_, by simpa using hf.start⟩
  intro k x hst
  induction hst with
  | here => exact ⟨by omega, by omega, by rw [hf.start]; exact Int.le_refl _, by rw [hf.start]; exact Int.le_refl _⟩
  | @on k x y _ hy ih =>
    obtain ⟨x', rfl⟩ := Int.eq_ofNat_of_zero_le ih.1
    have hy2 := hin x' (by omega) y hy
    have hd := hf.done x' (by omega) (by simpa using ih.2.2.1) (by simp) y hy
    have h4 := ih.2.2.2
    rw [Int.toNat_natCast] at h4
    exact ⟨hy2.1, hy2.2, hd.1, by omega⟩

theorem farOk_all {adj : Int → List Int} {n : Nat} (hin : ∀ x : Nat, x < n → ∀ z ∈ adj x, 0 ≤ z ∧ z < n) : ∀ (k : Nat) (far q : List Int), FarOk n far q → ∃ q', FarOk n (bfsGo adj k far q) q'
  | 0, far, q, h => ⟨q, h⟩
  | k + 1, far, [], h => ⟨[], h⟩
  | k + 1, far, c :: q, h => by
    rw [bfsGo]
    have hc := h.qin c (by simp)
    obtain ⟨c', rfl⟩ := Int.eq_ofNat_of_zero_le hc.1
    exact farOk_all hin k _ _ (bfsFold_ok (n := n) (c := (c' : Int)) hc (adj c') far q (hin c' (by omega)) ⟨h.len, fun x hx => h.qin x (List.mem_cons_of_mem _ hx), fun x hx => h.qset x (List.mem_cons_of_mem _ hx), h.big⟩ (h.qset _ (by simp))).1
theorem dist_le {adj : Int → List Int} {n fr : Nat} (hfr : fr < n) (hin : ∀ x : Nat, x < n → ∀ z ∈ adj x, 0 ≤ z ∧ z < n) (x : Nat) (hx : x < n) : (distS adj n fr)[x]?.getD 0 ≤ n := by
  obtain ⟨q, h⟩ := farOk_all hin (n + 1) _ _ (farOk_start n fr hfr).1
  have hl := h.len
  change (distS adj n fr).length = n at hl
  have hx' : x < (distS adj n fr).length := by omega
  rw [List.getElem?_eq_getElem hx', Option.getD_some]
  have := h.big _ (List.getElem_mem hx')
  omega
end Go.Proofs.YtcpjkilnbhfpjaaDoor
