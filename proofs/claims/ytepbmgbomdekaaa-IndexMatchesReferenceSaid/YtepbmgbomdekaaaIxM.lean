/-
  Arrangements and their numbers: binomial and multinomial numbers, the rank of a list among those with the same counts, and the list of a rank.
-/
namespace Go.Proofs.Ytepbmgbomdekaaa

/-- The number of ways to choose k of n. -/
def ch : Nat → Nat → Nat
  | _, 0 => 1
  | 0, _ + 1 => 0
  | n + 1, k + 1 => ch n k + ch n (k + 1)
def fct : Nat → Nat
  | 0 => 1
  | n + 1 => (n + 1) * fct n
theorem ch_zero (n : Nat) : ch n 0 = 1 := by cases n <;> rfl
theorem ch_over {n k : Nat} (h : n < k) : ch n k = 0 := by
  induction n generalizing k with
  | zero => cases k with
    | zero => omega
    | succ k => rfl
  | succ n ih => cases k with
    | zero => omega
    | succ k => simp only [ch]; rw [ih (by omega), ih (by omega)]
theorem ch_self (n : Nat) : ch n n = 1 := by
  induction n with
  | zero => rfl
  | succ n ih => simp only [ch]; rw [ih, ch_over (by omega)]
/-- One more of both: what the loop of a reference multiplies and divides by. -/
theorem ch_absorb (n k : Nat) : ch (n + 1) (k + 1) * (k + 1) = ch n k * (n + 1) := by
  induction n generalizing k with
  | zero => cases k with
    | zero => rfl
    | succ k => simp [ch]
  | succ n ih =>
    cases k with
    | zero =>
      have h := ih 0
      simp only [ch, ch_zero] at h ⊢
      omega
    | succ k =>
      have h1 := ih k
      have h2 := ih (k + 1)
      have e1 : ch (n + 1 + 1) (k + 1 + 1) = ch (n + 1) (k + 1) + ch (n + 1) (k + 1 + 1) := rfl
      have e2 : ch (n + 1) (k + 1) = ch n k + ch n (k + 1) := rfl
      rw [e1, Nat.add_mul, h2, Nat.mul_add (ch (n + 1) (k + 1)) (k + 1) 1, h1]
      rw [Nat.mul_add (ch (n + 1) (k + 1)) (n + 1) 1]
      have e3 : ch (n + 1) (k + 1) * (n + 1) = ch n k * (n + 1) + ch n (k + 1) * (n + 1) := by rw [e2, Nat.add_mul]
      omega
theorem ch_diag (m i : Nat) : ch (m + i) i ≤ ch (m + i + 1) (i + 1) := by simp only [ch]; omega
theorem ch_diag_le (m : Nat) {i j : Nat} (h : i ≤ j) : ch (m + i) i ≤ ch (m + j) j := by
  induction j with
  | zero => rw [Nat.le_zero.1 h]; exact Nat.le_refl _
  | succ j ih =>
    rcases Nat.lt_or_eq_of_le h with h | h
    · exact Nat.le_trans (ih (by omega)) (ch_diag m j)
    · subst h; exact Nat.le_refl _
theorem fct_pos (n : Nat) : 0 < fct n := by
  induction n with
  | zero => exact Nat.one_pos
  | succ n ih => exact Nat.mul_pos (by omega) ih
theorem ch_fct (a b : Nat) : ch (a + b) b * fct b * fct a = fct (a + b) := by
  induction b with
  | zero => simp [ch_zero, fct]
  | succ b ih =>
    have h := ch_absorb (a + b) b
    have e1 : fct (b + 1) = (b + 1) * fct b := rfl
    have e2 : fct (a + (b + 1)) = (a + b + 1) * fct (a + b) := rfl
    rw [e1, e2, ← ih, ← Nat.add_assoc, ← Nat.mul_assoc, h]
    simp only [Nat.mul_assoc, Nat.mul_left_comm, Nat.mul_comm]
theorem ch_pos {n k : Nat} (h : k ≤ n) : 0 < ch n k := by
  obtain ⟨a, rfl⟩ := Nat.exists_eq_add_of_le' h
  have e := ch_fct a k
  have := fct_pos (a + k)
  rcases Nat.eq_zero_or_pos (ch (a + k) k) with h0 | h0
  · rw [h0] at e; simp at e; omega
  · exact h0
theorem ch_sym (a b : Nat) : ch (a + b) a = ch (a + b) b := by
  have h1 := ch_fct a b
  have h2 := ch_fct b a
  rw [Nat.add_comm b a] at h2
  have p := Nat.mul_pos (fct_pos a) (fct_pos b)
  apply Nat.eq_of_mul_eq_mul_right p
  rw [← Nat.mul_assoc, h2, Nat.mul_comm (fct a), ← Nat.mul_assoc, h1]

/-- The arrangements of numbers of things, when n things are there before. -/
def waysF (n : Nat) : List Nat → Nat
  | [] => 1
  | x :: l => ch (n + x) x * waysF (n + x) l
def ways (l : List Nat) : Nat := waysF 0 l
def prodF : List Nat → Nat
  | [] => 1
  | x :: l => fct x * prodF l
theorem prodF_pos (l : List Nat) : 0 < prodF l := by
  induction l with
  | nil => exact Nat.one_pos
  | cons x l ih => exact Nat.mul_pos (fct_pos x) ih
theorem waysF_fct (n : Nat) (l : List Nat) : waysF n l * prodF l * fct n = fct (n + l.sum) := by
  induction l generalizing n with
  | nil => simp [waysF, prodF]
  | cons x l ih =>
    have h := ih (n + x)
    have e := ch_fct n x
    simp only [waysF, prodF, List.sum_cons]
    rw [← Nat.add_assoc, ← h, ← e]
    simp only [Nat.mul_assoc, Nat.mul_left_comm, Nat.mul_comm]
theorem waysF_pos (n : Nat) (l : List Nat) : 0 < waysF n l := by
  induction l generalizing n with
  | nil => exact Nat.one_pos
  | cons x l ih => exact Nat.mul_pos (ch_pos (by omega)) (ih _)
theorem ways_pos (l : List Nat) : 0 < ways l := waysF_pos 0 l
theorem ways_fct (l : List Nat) : ways l * prodF l = fct l.sum := by
  have h := waysF_fct 0 l
  simpa [fct, ways] using h
theorem ways_le (l : List Nat) : ways l ≤ fct l.sum := by
  rw [← ways_fct]; exact Nat.le_mul_of_pos_right _ (prodF_pos l)

/-- One thing less of the kind x. -/
def dec (l : List Nat) (x : Nat) : List Nat := l.set x (l.getD x 0 - 1)
theorem dec_length (l : List Nat) (x : Nat) : (dec l x).length = l.length := by simp [dec]
theorem dec_at (l : List Nat) (x y : Nat) : (dec l x).getD y 0 = if x = y then l.getD x 0 - 1 else l.getD y 0 := by
  unfold dec
  simp only [List.getD_eq_getElem?_getD, List.getElem?_set]
  by_cases h : x = y
  · subst h
    by_cases hx : x < l.length
    · simp [hx]
    · simp [hx]
  · simp [h]
theorem sum_dec {l : List Nat} {x : Nat} (h : 0 < l.getD x 0) : (dec l x).sum + 1 = l.sum := by
  induction l generalizing x with
  | nil => simp at h
  | cons a l ih =>
    cases x with
    | zero => simp [dec] at h ⊢; omega
    | succ x =>
      have := ih (x := x) (by simpa using h)
      simp [dec] at this ⊢; omega
theorem prodF_dec {l : List Nat} {x : Nat} (h : 0 < l.getD x 0) : prodF (dec l x) * l.getD x 0 = prodF l := by
  induction l generalizing x with
  | nil => simp at h
  | cons a l ih =>
    cases x with
    | zero =>
      simp only [List.getD_cons_zero] at h
      obtain ⟨b, rfl⟩ : ∃ b, a = b + 1 := ⟨a - 1, by omega⟩
      simp only [dec, List.getD_cons_zero, List.set_cons_zero, prodF, fct, Nat.add_sub_cancel]
      simp only [Nat.mul_assoc, Nat.mul_comm]
    | succ x =>
      have := ih (x := x) (by simpa using h)
      simp only [dec, List.getD_cons_succ, List.set_cons_succ, prodF] at this ⊢
      rw [Nat.mul_assoc, this]
/-- The arrangements that begin with the kind x. -/
def term (l : List Nat) (x : Nat) : Nat := if l.getD x 0 = 0 then 0 else ways (dec l x)
/-- The arrangements that begin with a kind before x. -/
def below (l : List Nat) : Nat → Nat
  | 0 => 0
  | x + 1 => below l x + term l x
theorem below_le (l : List Nat) {x y : Nat} (h : x ≤ y) : below l x ≤ below l y := by
  induction y with
  | zero => rw [Nat.le_zero.1 h]; exact Nat.le_refl _
  | succ y ih =>
    rcases Nat.lt_or_eq_of_le h with h | h
    · have := ih (by omega); simp only [below]; omega
    · subst h; exact Nat.le_refl _
theorem term_fct {l : List Nat} {n : Nat} (hs : l.sum = n + 1) (x : Nat) : term l x * prodF l = l.getD x 0 * fct n := by
  unfold term
  split
  · rename_i h; rw [h]; simp
  · rename_i h
    have hp : 0 < l.getD x 0 := by omega
    rw [← prodF_dec hp, ← Nat.mul_assoc, ways_fct, Nat.mul_comm]
    have := sum_dec hp
    rw [show (dec l x).sum = n by omega]
theorem sum_take (l : List Nat) (x : Nat) : (l.take (x + 1)).sum = (l.take x).sum + l.getD x 0 := by
  induction l generalizing x with
  | nil => simp
  | cons a l ih =>
    cases x with
    | zero => simp
    | succ x => have := ih x; simp at this ⊢; omega
theorem below_fct {l : List Nat} {n : Nat} (hs : l.sum = n + 1) (x : Nat) : below l x * prodF l = (l.take x).sum * fct n := by
  induction x with
  | zero => simp [below]
  | succ x ih =>
    simp only [below]
    rw [Nat.add_mul, ih, term_fct hs, ← Nat.add_mul, sum_take]
/-- All arrangements begin with some kind. -/
theorem below_all {l : List Nat} {n : Nat} (hs : l.sum = n + 1) : below l l.length = ways l := by
  apply Nat.eq_of_mul_eq_mul_right (prodF_pos l)
  rw [below_fct hs, ways_fct, List.take_length, hs]
  rfl

/-- l has the numbers of the kinds in p. -/
def Counts (l p : List Nat) : Prop := p.length = l.sum ∧ (∀ x, l.getD x 0 = p.count x)
theorem counts_tail {l p : List Nat} {c : Nat} (h : Counts l (c :: p)) : 0 < l.getD c 0 ∧ Counts (dec l c) p := by
  have h0 : 0 < l.getD c 0 := by rw [h.2 c]; simp
  have hs := sum_dec h0
  have hl := h.1
  simp only [List.length_cons] at hl
  refine ⟨h0, by omega, fun x => ?_⟩
  rw [dec_at, h.2 c, h.2 x]
  by_cases e : c = x
  · subst e; simp
  · simp only [e, if_false, List.count_cons]
    simp [show ¬ (c = x) from e]
theorem counts_nil {l : List Nat} (h : Counts l []) : ways l = 1 := by
  have := ways_fct l
  rw [← h.1] at this
  simp only [List.length_nil, fct] at this
  exact Nat.eq_one_of_mul_eq_one_right this
theorem counts_lt {l p : List Nat} (h : Counts l p) {c : Nat} (hc : c ∈ p) : c < l.length := by
  have h1 := h.2 c
  have h2 := List.count_pos_iff.2 hc
  rcases Nat.lt_or_ge c l.length with h3 | h3
  · exact h3
  · rw [List.getD_eq_getElem?_getD, List.getElem?_eq_none h3] at h1
    simp at h1; omega
theorem term_of {l : List Nat} {c : Nat} (h : 0 < l.getD c 0) : term l c = ways (dec l c) := by
  unfold term; rw [if_neg (by omega)]

/-- How many lists with the same counts come before p. -/
def rankS (l : List Nat) : List Nat → Nat
  | [] => 0
  | c :: p => below l c + rankS (dec l c) p
theorem rank_lt {l p : List Nat} (h : Counts l p) : rankS l p < ways l := by
  induction p generalizing l with
  | nil => rw [counts_nil h]; exact Nat.one_pos
  | cons c p ih =>
    obtain ⟨h0, ht⟩ := counts_tail h
    have h1 := ih ht
    have h2 : c < l.length := counts_lt h (by simp)
    have h3 := below_le l (show c + 1 ≤ l.length from h2)
    have hs : l.sum = p.length + 1 := by rw [← h.1]; simp
    rw [below_all hs] at h3
    simp only [below, term_of h0] at h3
    simp only [rankS]
    omega
/-- The kind with which the list of the rank i begins, from x on (k more are there). -/
def firstS (l : List Nat) (i : Nat) : Nat → Nat → Nat
  | 0, x => x
  | k + 1, x => if i < below l (x + 1) then x else firstS l i k (x + 1)
def atS (l : List Nat) : Nat → Nat → List Nat
  | 0, _ => []
  | n + 1, i => firstS l i l.length 0 :: atS (dec l (firstS l i l.length 0)) n (i - below l (firstS l i l.length 0))
theorem first_of {l : List Nat} {i c : Nat} (k x : Nat) (hx : x ≤ c) (hk : c < x + k) (h1 : below l c ≤ i) (h2 : i < below l (c + 1)) : firstS l i k x = c := by
  induction k generalizing x with
  | zero => omega
  | succ k ih =>
    unfold firstS
    split
    · rename_i h
      rcases Nat.lt_or_eq_of_le hx with h3 | h3
      · have := below_le l (show x + 1 ≤ c from h3); omega
      · exact h3
    · rename_i h
      rcases Nat.lt_or_eq_of_le hx with h3 | h3
      · exact ih (x + 1) h3 (by omega)
      · subst h3; exact absurd h2 h
theorem first_lt {l : List Nat} {i : Nat} (k x : Nat) (h0 : below l x ≤ i) (h : i < below l (x + k)) : x ≤ firstS l i k x ∧ firstS l i k x < x + k ∧ below l (firstS l i k x) ≤ i ∧ i < below l (firstS l i k x + 1) := by
  induction k generalizing x with
  | zero => simp at h; omega
  | succ k ih =>
    unfold firstS
    split
    · rename_i h1; exact ⟨Nat.le_refl _, by omega, h0, h1⟩
    · rename_i h1
      have := ih (x + 1) (by omega) (by rw [show x + 1 + k = x + (k + 1) by omega]; exact h)
      exact ⟨by omega, by omega, this.2.2.1, this.2.2.2⟩
theorem at_rank {l p : List Nat} (h : Counts l p) : atS l p.length (rankS l p) = p := by
  induction p generalizing l with
  | nil => rfl
  | cons c p ih =>
    obtain ⟨h0, ht⟩ := counts_tail h
    have h1 := rank_lt ht
    have h2 : c < l.length := counts_lt h (by simp)
    have e : firstS l (rankS l (c :: p)) l.length 0 = c := first_of _ _ (Nat.zero_le _) (by omega) (by simp only [rankS]; omega) (by simp only [rankS, below, term_of h0]; omega)
    simp only [List.length_cons, atS, e]
    rw [show rankS l (c :: p) - below l c = rankS (dec l c) p by simp only [rankS]; omega, ih ht]
theorem counts_cons {l p : List Nat} {c : Nat} (h0 : 0 < l.getD c 0) (h : Counts (dec l c) p) : Counts l (c :: p) := by
  have hs := sum_dec h0
  refine ⟨by rw [List.length_cons, h.1]; omega, fun x => ?_⟩
  have := h.2 x
  rw [dec_at] at this
  rw [List.count_cons]
  by_cases e : c = x
  · subst e; rw [if_pos rfl] at this; rw [if_pos (beq_self_eq_true c)]; omega
  · rw [if_neg e] at this; rw [if_neg (by simpa using e)]; exact this
theorem at_counts {l : List Nat} (n : Nat) (hs : l.sum = n) {i : Nat} (h : i < ways l) : Counts l (atS l n i) ∧ rankS l (atS l n i) = i := by
  induction n generalizing l i with
  | zero =>
    have hw : ways l ≤ 1 := by have := ways_le l; rw [hs] at this; exact this
    refine ⟨⟨by simp [atS, hs], fun x => ?_⟩, by simp only [atS, rankS]; omega⟩
    simp only [atS, List.count_nil]
    rcases Nat.eq_zero_or_pos (l.getD x 0) with h1 | h1
    · exact h1
    · have := sum_dec h1; omega
  | succ n ih =>
    rw [← below_all hs] at h
    have hf := first_lt l.length 0 (Nat.zero_le _) (by rw [Nat.zero_add]; exact h)
    simp only [atS]
    generalize hc : firstS l i l.length 0 = c at hf ⊢
    have h0 : 0 < l.getD c 0 := by
      rcases Nat.eq_zero_or_pos (l.getD c 0) with h1 | h1
      · have h4 := hf.2.2.2; simp only [below, term] at h4; rw [if_pos h1] at h4; omega
      · exact h1
    have h4 := hf.2.2.2
    simp only [below, term_of h0] at h4
    have hs' := sum_dec h0
    have := ih (l := dec l c) (by omega) (i := i - below l c) (by omega)
    refine ⟨counts_cons h0 this.1, ?_⟩
    simp only [rankS]
    rw [this.2]; omega

/-- The order of lists of one length, as the order of positions has it: -1, 0, 1. -/
def cmpS : List Nat → List Nat → Int
  | a :: p, b :: q => if a < b then -1 else if b < a then 1 else cmpS p q
  | _, _ => 0
theorem rank_order {l p q : List Nat} (hp : Counts l p) (hq : Counts l q) : (rankS l p < rankS l q ↔ cmpS p q < 0) ∧ (rankS l p = rankS l q ↔ p = q) ∧ (cmpS p q = 0 ↔ p = q) := by
  induction p generalizing l q with
  | nil =>
    have : q = [] := List.eq_nil_of_length_eq_zero (by rw [hq.1, ← hp.1]; rfl)
    subst this; simp [cmpS]
  | cons a p ih =>
    cases q with
    | nil => have := hp.1; rw [← hq.1] at this; simp at this
    | cons b q =>
      obtain ⟨ha, hpt⟩ := counts_tail hp
      obtain ⟨hb, hqt⟩ := counts_tail hq
      have r1 := rank_lt hpt
      have r2 := rank_lt hqt
      simp only [rankS, cmpS]
      rcases Nat.lt_trichotomy a b with h | h | h
      · have := below_le l (show a + 1 ≤ b from h)
        simp only [below, term_of ha] at this
        rw [if_pos h]
        refine ⟨⟨fun _ => by decide, fun _ => by omega⟩, ⟨fun _ => by omega, fun e => ?_⟩, ⟨fun e => by simp at e, fun e => ?_⟩⟩ <;> simp at e <;> omega
      · subst h
        have := ih hpt hqt
        rw [if_neg (Nat.lt_irrefl _), if_neg (Nat.lt_irrefl _)]
        refine ⟨⟨fun e => this.1.1 (by omega), fun e => by have := this.1.2 e; omega⟩, ⟨fun e => ?_, fun e => ?_⟩, ⟨fun e => ?_, fun e => ?_⟩⟩
        · rw [this.2.1.1 (by omega)]
        · simp at e; rw [e]
        · rw [this.2.2.1 e]
        · simp at e; exact this.2.2.2 e
      · have := below_le l (show b + 1 ≤ a from h)
        simp only [below, term_of hb] at this
        rw [if_neg (by omega), if_pos h]
        refine ⟨⟨fun _ => by omega, fun e => by simp at e⟩, ⟨fun _ => by omega, fun e => ?_⟩, ⟨fun e => by simp at e, fun e => ?_⟩⟩ <;> simp at e <;> omega

/-! What a loop over the numbers has. -/
theorem ch_step (m i : Nat) : ch (m + i) i * (m + i + 1) / (i + 1) = ch (m + i + 1) (i + 1) := by
  rw [← ch_absorb]; exact Nat.mul_div_cancel _ (by omega)
theorem ch_half (n k : Nat) (h : k ≤ n) : ch n (min k (n - k)) = ch n k := by
  rcases Nat.le_total k (n - k) with h1 | h1
  · rw [Nat.min_eq_left h1]
  · rw [Nat.min_eq_right h1]
    obtain ⟨a, rfl⟩ := Nat.exists_eq_add_of_le' h
    rw [Nat.add_sub_cancel]; exact ch_sym a k
theorem waysF_append (n : Nat) (a b : List Nat) : waysF n (a ++ b) = waysF n a * waysF (n + a.sum) b := by
  induction a generalizing n with
  | nil => simp [waysF]
  | cons x a ih => simp only [List.cons_append, waysF, ih, List.sum_cons, Nat.mul_assoc, Nat.add_assoc]
theorem take_next {l : List Nat} {i : Nat} (h : i < l.length) : l.take (i + 1) = l.take i ++ [l.getD i 0] := by
  rw [List.take_add_one, List.getD_eq_getElem?_getD, List.getElem?_eq_getElem h]; rfl
theorem ways_take {l : List Nat} {i : Nat} (h : i < l.length) : ways (l.take (i + 1)) = ways (l.take i) * ch ((l.take i).sum + l.getD i 0) (l.getD i 0) := by
  rw [take_next h]; unfold ways; rw [waysF_append]; simp [waysF]
theorem ways_take_le (l : List Nat) (i : Nat) : ways (l.take i) ≤ ways l := by
  conv => rhs; rw [← List.take_append_drop i l]
  unfold ways; rw [waysF_append]; exact Nat.le_mul_of_pos_right _ (waysF_pos _ _)

/-! The sums of all materials with one kind: each cell has three contents. -/
def sumB (n a : Nat) : Nat → Nat
  | 0 => 0
  | b + 1 => sumB n a b + ways [n - a - b, a, b]
def sumA (n : Nat) : Nat → Nat
  | 0 => 0
  | a + 1 => sumA n a + sumB n a (n - a + 1)
theorem sums (n : Nat) (h : n ≤ 8) : sumA n (n + 1) = 3 ^ n := by
  have : ∀ m : Fin 9, sumA m.val (m.val + 1) = 3 ^ m.val := by decide
  exact this ⟨n, by omega⟩
end Go.Proofs.Ytepbmgbomdekaaa
