/-
  What stage 14 computes, as plain functions: filling, ways counted up to a bound, counts, ranks and lists.
-/
import Derived.Test.YtepbmgbomdekaaaIxM
namespace Go.Proofs.Ytepbmgbomdekaaa

def zs (l : List Nat) : List Int := l.map fun (n : Nat) => (n : Int)
theorem zs_len (l : List Nat) : (zs l).length = l.length := by simp [zs]
theorem zs_get (l : List Nat) (j : Nat) : (zs l)[j]?.getD 0 = ((l.getD j 0 : Nat) : Int) := by
  simp only [zs, List.getElem?_map, List.getD_eq_getElem?_getD]
  cases l[j]? <;> rfl
theorem zs_inj {l m : List Nat} (h : zs l = zs m) : l = m := by
  induction l generalizing m with
  | nil => cases m with
    | nil => rfl
    | cons => simp [zs] at h
  | cons a l ih => cases m with
    | nil => simp [zs] at h
    | cons b m =>
      simp only [zs, List.map_cons, List.cons.injEq] at h
      rw [ih h.2, show a = b by omega]

/-- Whether the numbers fill so many cells. -/
def fillF : List Int → Int → Bool
  | [], c => decide (c = 0)
  | n :: l, c => if n < 0 then false else if c < n then false else fillF l (c - n)
theorem fillF_some {l : List Int} {c : Nat} (h : fillF l c = true) : ∃ m : List Nat, l = zs m ∧ m.sum = c := by
  induction l generalizing c with
  | nil => exact ⟨[], rfl, by simpa [fillF, eq_comm] using h⟩
  | cons n l ih =>
    simp only [fillF] at h
    split at h
    · cases h
    · split at h
      · cases h
      · obtain ⟨a, rfl⟩ := Int.eq_ofNat_of_zero_le (show 0 ≤ n by omega)
        have e : ((c : Int) - (a : Int)) = ((c - a : Nat) : Int) := by omega
        rw [e] at h
        obtain ⟨m, rfl, hm⟩ := ih h
        exact ⟨a :: m, rfl, by simp; omega⟩
theorem fillF_of (m : List Nat) : fillF (zs m) (m.sum : Nat) = true := by
  induction m with
  | nil => rfl
  | cons a m ih =>
    simp only [zs, List.map_cons, fillF, List.sum_cons]
    rw [if_neg (by omega), if_neg (by omega)]
    have e : (((a + m.sum : Nat) : Int) - (a : Int)) = (m.sum : Int) := by omega
    rw [e]; exact ih
theorem fillF_zs {m : List Nat} {c : Nat} : fillF (zs m) c = true ↔ m.sum = c := by
  constructor
  · intro h
    obtain ⟨m', e, hs⟩ := fillF_some h
    rw [zs_inj e]; exact hs
  · intro h; rw [← h]; exact fillF_of m

theorem term_mul {l : List Nat} {n : Nat} (hs : l.sum = n + 1) (x : Nat) : term l x * (n + 1) = ways l * l.getD x 0 := by
  apply Nat.eq_of_mul_eq_mul_right (prodF_pos l)
  have h1 := term_fct hs x
  have h2 := ways_fct l
  rw [hs] at h2
  have e : fct (n + 1) = (n + 1) * fct n := rfl
  rw [Nat.mul_right_comm (term l x), h1, Nat.mul_right_comm (ways l), h2, e]
  simp only [Nat.mul_comm, Nat.mul_left_comm]
theorem term_le {l : List Nat} {n : Nat} (hs : l.sum = n + 1) (x : Nat) : term l x ≤ ways l := by
  have h := term_mul hs x
  have h2 : l.getD x 0 ≤ n + 1 := by
    rw [← hs]
    have := sum_take l x
    have h3 : (l.take (x + 1)).sum ≤ l.sum := by
      have e : l.sum = (l.take (x + 1)).sum + (l.drop (x + 1)).sum := by rw [← List.sum_append, List.take_append_drop]
      omega
    omega
  have h3 := Nat.mul_le_mul_left (ways l) h2
  rw [← h] at h3
  exact Nat.le_of_mul_le_mul_right h3 (by omega)

theorem waysF_app (n : Nat) (p : List Nat) (i : Nat) : waysF n (p ++ [i]) = waysF n p * ch (n + p.sum + i) i := by
  induction p generalizing n with
  | nil => simp [waysF]
  | cons a p ih => simp only [List.cons_append, waysF, List.sum_cons]; rw [ih, Nat.mul_assoc, ← Nat.add_assoc]
theorem ways_app (p : List Nat) (i : Nat) : ways (p ++ [i]) = ways p * ch (p.sum + i) i := by
  have := waysF_app 0 p i
  simpa [ways] using this
theorem ways_app0 (p : List Nat) : ways (p ++ [0]) = ways p := by rw [ways_app, ch_zero, Nat.mul_one]
theorem ways_app_step (p : List Nat) (i : Nat) : ways (p ++ [i + 1]) * (i + 1) = ways (p ++ [i]) * (p.sum + i + 1) := by
  rw [ways_app, ways_app, Nat.mul_assoc, Nat.mul_assoc]
  congr 1
  exact ch_absorb (p.sum + i) i
theorem ways_app_div (p : List Nat) (i : Nat) : ways (p ++ [i]) * (p.sum + i + 1) / (i + 1) = ways (p ++ [i + 1]) := by
  rw [← ways_app_step, Nat.mul_div_cancel _ (by omega)]
theorem ways_app_le (p : List Nat) {i j : Nat} (h : i ≤ j) : ways (p ++ [i]) ≤ ways (p ++ [j]) := by
  rw [ways_app, ways_app]; exact Nat.mul_le_mul_left _ (ch_diag_le _ h)
theorem waysF_take (n : Nat) (l : List Nat) (k : Nat) : waysF n (l.take k) ≤ waysF n l := by
  induction l generalizing n k with
  | nil => simp
  | cons a l ih =>
    cases k with
    | zero => simp only [List.take_zero]; exact waysF_pos n (a :: l)
    | succ k => simp only [List.take_succ_cons, waysF]; exact Nat.mul_le_mul_left _ (ih _ _)
theorem ways_take_le_ (l : List Nat) (k : Nat) : ways (l.take k) ≤ ways l := waysF_take 0 l k
theorem take_one (l : List Nat) (k : Nat) (h : k < l.length) : l.take (k + 1) = l.take k ++ [l.getD k 0] := by
  rw [List.take_add_one, List.getD_eq_getElem?_getD, List.getElem?_eq_getElem h]; rfl
theorem sum_take_le (l : List Nat) (k : Nat) : (l.take k).sum ≤ l.sum := by
  have e : l.sum = (l.take k).sum + (l.drop k).sum := by rw [← List.sum_append, List.take_append_drop]
  omega

/-- v tells the number of ways, up to a bound. -/
def Told (W v : Nat) : Prop := (W ≤ 1099511627776 ∧ v = W) ∨ (1099511627776 < W ∧ 1099511627776 < v ∧ v ≤ 72057594037927936)
theorem Told.le {W v : Nat} (h : Told W v) (hv : v ≤ 1099511627776) : v = W ∧ W ≤ 1099511627776 := by
  rcases h with h | h
  · exact ⟨h.2, h.1⟩
  · omega
theorem Told.gt {W v : Nat} (h : Told W v) (hv : 1099511627776 < v) : 1099511627776 < W := by
  rcases h with h | h
  · omega
  · exact h.1

/-- What choose gives. -/
theorem ch_min (n k : Nat) (h : k ≤ n) : ch n (min k (n - k)) = ch n k := by
  rcases Nat.le_total k (n - k) with h1 | h1
  · rw [Nat.min_eq_left h1]
  · rw [Nat.min_eq_right h1]
    obtain ⟨a, rfl⟩ := Nat.exists_eq_add_of_le' h
    rw [Nat.add_sub_cancel]; exact ch_sym a k
theorem ch_step_div (m i : Nat) : ch (m + i) i * (m + i + 1) / (i + 1) = ch (m + i + 1) (i + 1) := by
  rw [← ch_absorb, Nat.mul_div_cancel _ (by omega)]

/-- How often each content below m is there. -/
def countN (m : Nat) (p : List Nat) : List Nat := (List.range m).map fun x => p.count x
theorem countN_len (m : Nat) (p : List Nat) : (countN m p).length = m := by simp [countN]
theorem countN_at (m : Nat) (p : List Nat) (x : Nat) : (countN m p).getD x 0 = if x < m then p.count x else 0 := by
  simp only [countN, List.getD_eq_getElem?_getD, List.getElem?_map]
  by_cases h : x < m
  · simp [h]
  · simp [h]
theorem countN_nil (m : Nat) : countN m [] = List.replicate m 0 := by
  apply List.ext_getElem
  · simp [countN]
  · intro i h1 h2; simp [countN]
theorem countN_snoc (m : Nat) (p : List Nat) (x : Nat) (h : x < m) : countN m (p ++ [x]) = (countN m p).set x ((countN m p).getD x 0 + 1) := by
  rw [countN_at, if_pos h]
  apply List.ext_getElem
  · simp [countN]
  · intro i h1 h2
    simp only [countN, List.getElem_map, List.getElem_range, List.getElem_set, List.count_append]
    by_cases e : x = i
    · subst e; simp
    · simp [e]
theorem countN_sum (m : Nat) (p : List Nat) (h : ∀ x ∈ p, x < m) : (countN m p).sum = p.length := by
  induction p with
  | nil => rw [countN_nil]; simp
  | cons a p ih =>
    have ha := h a (by simp)
    have e : countN m (a :: p) = (countN m p).set a ((countN m p).getD a 0 + 1) := by
      rw [← countN_snoc m p a ha]
      apply List.ext_getElem
      · simp [countN]
      · intro i h1 h2
        simp only [countN, List.getElem_map, List.getElem_range]
        rw [show a :: p = [a] ++ p from rfl, List.count_append, List.count_append, Nat.add_comm]
    have hs : ∀ (l : List Nat) (j : Nat), j < l.length → (l.set j (l.getD j 0 + 1)).sum = l.sum + 1 := by
      intro l
      induction l with
      | nil => intro j hj; simp at hj
      | cons b l ihl =>
        intro j hj
        cases j with
        | zero => simp; omega
        | succ j =>
          have := ihl j (by simpa using hj)
          simp at this ⊢; omega
    rw [e, hs _ _ (by rw [countN_len]; exact ha), ih (fun x hx => h x (by simp [hx])), List.length_cons]
theorem counts_countN {m : Nat} {p : List Nat} (h : ∀ x ∈ p, x < m) : Counts (countN m p) p := by
  refine ⟨(countN_sum m p h).symm, fun x => ?_⟩
  rw [countN_at]
  split
  · rfl
  · rename_i hx
    rw [eq_comm, List.count_eq_zero]
    intro hm; exact hx (h x hm)
theorem counts_inj {l l' p : List Nat} (hl : l.length = l'.length) (h : Counts l p) (h' : Counts l' p) : l = l' := by
  apply List.ext_getElem hl
  intro i h1 h2
  have := h.2 i
  have h3 := h'.2 i
  simp only [List.getD_eq_getElem?_getD, List.getElem?_eq_getElem h1, List.getElem?_eq_getElem h2, Option.getD_some] at this h3
  omega
end Go.Proofs.Ytepbmgbomdekaaa
