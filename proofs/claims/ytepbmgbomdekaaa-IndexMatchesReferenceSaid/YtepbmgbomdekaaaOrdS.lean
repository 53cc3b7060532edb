/-
  Sorted lists of positions.
-/
import Derived.Test.YtepbmgbomdekaaaOrdM
namespace Go.Proofs.Ytepbmgbomdekaaa

instance : DecidableEq PosS := fun p q => decidable_of_iff (cmpP p q = 0) (cmpP_ok.eq0 p q)

def Srt (L : List PosS) : Prop := L.Pairwise (fun a b => cmpP a b = -1)
theorem cmpP_trans {p q r : PosS} (h1 : cmpP p q = -1) (h2 : cmpP q r = -1) : cmpP p r = -1 := by
  have h := orders_ok p q r
  have := cmpP_ok.rng p r
  have h5 := h.2.2.2.2.1 (by omega) (by omega)
  rcases this with h | h | h
  · exact h
  · have := h5.2 h; omega
  · omega
theorem cmpP_self (p : PosS) : cmpP p p = 0 := (cmpP_ok.eq0 p p).2 rfl
theorem cmpP_flip {p q : PosS} (h : cmpP p q = -1) : cmpP q p = 1 := by rw [cmpP_ok.anti p q, h]; rfl
theorem cmpP_ne {p q : PosS} (h : cmpP p q = -1) : p ≠ q := fun e => by subst e; rw [cmpP_self] at h; omega
theorem cmpP_gt {p q : PosS} (h1 : cmpP p q ≠ -1) (h2 : p ≠ q) : cmpP q p = -1 := by
  have := cmpP_ok.rng p q
  have h0 : cmpP p q ≠ 0 := fun h => h2 ((cmpP_ok.eq0 p q).1 h)
  rw [cmpP_ok.anti p q]
  omega

theorem srt_unique : ∀ {L M : List PosS}, Srt L → Srt M → (∀ p, p ∈ L ↔ p ∈ M) → L = M
  | [], [], _, _, _ => rfl
  | [], b :: M, _, _, h => absurd ((h b).2 (by simp)) (by simp)
  | a :: L, [], _, _, h => absurd ((h a).1 (by simp)) (by simp)
  | a :: L, b :: M, hL, hM, h => by
    unfold Srt at hL hM
    rw [List.pairwise_cons] at hL hM
    have hab : a = b := by
      apply Classical.byContradiction
      intro hne
      have ha : a ∈ b :: M := (h a).1 (by simp)
      have hb : b ∈ a :: L := (h b).2 (by simp)
      rcases List.mem_cons.1 ha with e | ha
      · exact hne e
      rcases List.mem_cons.1 hb with e | hb
      · exact hne e.symm
      have h1 := hM.1 a ha
      have h2 := cmpP_flip (hL.1 b hb)
      omega
    subst hab
    rw [srt_unique hL.2 hM.2 (fun p => ?_)]
    constructor
    · intro hp
      rcases List.mem_cons.1 ((h p).1 (List.mem_cons_of_mem _ hp)) with e | h'
      · exact absurd (hL.1 p hp) (by rw [e, cmpP_self]; omega)
      · exact h'
    · intro hp
      rcases List.mem_cons.1 ((h p).2 (List.mem_cons_of_mem _ hp)) with e | h'
      · exact absurd (hM.1 p hp) (by rw [e, cmpP_self]; omega)
      · exact h'

def insP (x : PosS) : List PosS → List PosS
  | [] => [x]
  | y :: l => if cmpP x y = -1 then x :: y :: l else if cmpP x y = 0 then y :: l else y :: insP x l
theorem mem_insP (x p : PosS) : ∀ L : List PosS, p ∈ insP x L ↔ p = x ∨ p ∈ L
  | [] => by simp [insP]
  | y :: l => by
    have ih := mem_insP x p l
    unfold insP
    split
    · simp
    · split
      · rename_i _ h0
        have := (cmpP_ok.eq0 x y).1 h0
        subst this
        simp
      · rw [List.mem_cons, ih, List.mem_cons]
        constructor
        · rintro (h | h | h)
          · exact .inr (.inl h)
          · exact .inl h
          · exact .inr (.inr h)
        · rintro (h | h | h)
          · exact .inr (.inl h)
          · exact .inl h
          · exact .inr (.inr h)
theorem srt_insP (x : PosS) : ∀ {L : List PosS}, Srt L → Srt (insP x L)
  | [], _ => by simp [insP, Srt]
  | y :: l, h => by
    have h' := h
    unfold Srt at h'
    rw [List.pairwise_cons] at h'
    unfold insP
    split
    · rename_i hlt
      unfold Srt
      rw [List.pairwise_cons]
      refine ⟨fun z hz => ?_, h⟩
      rcases List.mem_cons.1 hz with e | hz
      · rw [e]; exact hlt
      · exact cmpP_trans hlt (h'.1 z hz)
    · split
      · exact h
      · rename_i h1 h2
        have hgt := cmpP_gt h1 (fun e => h2 ((cmpP_ok.eq0 x y).2 e))
        unfold Srt
        rw [List.pairwise_cons]
        refine ⟨fun z hz => ?_, srt_insP x h'.2⟩
        rcases (mem_insP x z l).1 hz with e | hz
        · rw [e]; exact hgt
        · exact h'.1 z hz
def sortS (l : List PosS) : List PosS := l.foldr insP []
theorem sortS_srt (l : List PosS) : Srt (sortS l) := by
  induction l with
  | nil => exact List.Pairwise.nil
  | cons a l ih => exact srt_insP a ih
theorem sortS_mem (l : List PosS) (p : PosS) : p ∈ sortS l ↔ p ∈ l := by
  induction l with
  | nil => rfl
  | cons a l ih => show p ∈ insP a (sortS l) ↔ _; rw [mem_insP, ih, List.mem_cons]
theorem sortS_eq {l L : List PosS} (h : Srt L) (hm : ∀ p, p ∈ L ↔ p ∈ l) : L = sortS l :=
  srt_unique h (sortS_srt l) (fun p => (hm p).trans (sortS_mem l p).symm)

/-- Of equal neighbours only the first one. -/
def ddupTo (d : Nat → PosS) : Nat → List PosS
  | 0 => []
  | 1 => [d 0]
  | m + 2 => if d (m + 1) = d m then ddupTo d (m + 1) else ddupTo d (m + 1) ++ [d (m + 1)]
theorem ddupTo_len (d : Nat → PosS) : ∀ m, (ddupTo d m).length ≤ m
  | 0 => by simp [ddupTo]
  | 1 => by simp [ddupTo]
  | m + 2 => by
    have := ddupTo_len d (m + 1)
    unfold ddupTo
    split
    · omega
    · simp; omega
theorem ddupTo_pos (d : Nat → PosS) : ∀ m, 1 ≤ m → 1 ≤ (ddupTo d m).length
  | 1, _ => by simp [ddupTo]
  | m + 2, _ => by
    have := ddupTo_pos d (m + 1) (by omega)
    unfold ddupTo
    split
    · omega
    · simp
theorem ddupTo_mem (d : Nat → PosS) (p : PosS) : ∀ m, p ∈ ddupTo d m ↔ ∃ j, j < m ∧ p = d j
  | 0 => by simp [ddupTo]
  | 1 => by
    simp only [ddupTo, List.mem_singleton]
    constructor
    · intro h; exact ⟨0, by omega, h⟩
    · rintro ⟨j, hj, h⟩; obtain rfl : j = 0 := by omega
      exact h
  | m + 2 => by
    have ih := ddupTo_mem d p (m + 1)
    unfold ddupTo
    split
    · rename_i he
      rw [ih]
      constructor
      · rintro ⟨j, hj, h⟩; exact ⟨j, by omega, h⟩
      · rintro ⟨j, hj, h⟩
        by_cases e : j = m + 1
        · exact ⟨m, by omega, by rw [h, e, he]⟩
        · exact ⟨j, by omega, h⟩
    · rw [List.mem_append, ih, List.mem_singleton]
      constructor
      · rintro (⟨j, hj, h⟩ | h)
        · exact ⟨j, by omega, h⟩
        · exact ⟨m + 1, by omega, h⟩
      · rintro ⟨j, hj, h⟩
        by_cases e : j = m + 1
        · exact .inr (by rw [h, e])
        · exact .inl ⟨j, by omega, h⟩
theorem ddupTo_last (d : Nat → PosS) : ∀ m, ∃ r, ddupTo d (m + 1) = r ++ [d m]
  | 0 => ⟨[], rfl⟩
  | m + 1 => by
    unfold ddupTo
    split
    · rename_i he
      obtain ⟨r, hr⟩ := ddupTo_last d m
      exact ⟨r, by rw [hr, he]⟩
    · exact ⟨_, rfl⟩
/-- In a list in which none comes before its neighbour to the left, what is left is sorted. -/
theorem ddupTo_srt (d : Nat → PosS) (n : Nat) (h : ∀ i j, i < j → j < n → cmpP (d j) (d i) ≠ -1) : ∀ m, m ≤ n → Srt (ddupTo d m)
  | 0, _ => List.Pairwise.nil
  | 1, _ => by simp [ddupTo, Srt]
  | m + 2, hm => by
    have ih := ddupTo_srt d n h (m + 1) (by omega)
    unfold ddupTo
    split
    · exact ih
    · rename_i hne
      unfold Srt
      rw [List.pairwise_append]
      refine ⟨ih, by simp, fun a ha b hb => ?_⟩
      obtain rfl : b = d (m + 1) := by simpa using hb
      obtain ⟨j, hj, rfl⟩ := (ddupTo_mem d a (m + 1)).1 ha
      have h1 := cmpP_gt (h m (m + 1) (by omega) (by omega)) hne
      by_cases e : j = m
      · rw [e]; exact h1
      · have h2 := h j m (by omega) (by omega)
        by_cases e2 : d m = d j
        · rw [← e2]; exact h1
        · exact cmpP_trans (cmpP_gt h2 e2) h1
/-- Without equal neighbours all are left. -/
theorem ddupTo_all (d : Nat → PosS) : ∀ m, (∀ j, 1 ≤ j → j < m → d j ≠ d (j - 1)) → ddupTo d m = (List.range m).map d
  | 0, _ => rfl
  | 1, _ => rfl
  | m + 2, h => by
    have ih := ddupTo_all d (m + 1) (fun j h1 h2 => h j h1 (by omega))
    unfold ddupTo
    rw [if_neg (by have := h (m + 1) (by omega) (by omega); simpa using this), ih, List.range_succ (n := m + 1), List.map_append]
    rfl

/-- Where a position stands in a sorted list. -/
def findS (L : List PosS) (p : PosS) : Int := if p ∈ L then (L.idxOf p : Int) else -1
theorem srt_idx {L : List PosS} (h : Srt L) {i j : Nat} (hi : i < L.length) (hj : j < L.length) (he : L[i] = L[j]) : i = j := by
  unfold Srt at h
  rw [List.pairwise_iff_getElem] at h
  rcases Nat.lt_trichotomy i j with hlt | e | hlt
  · exact absurd he (cmpP_ne (h i j hi hj hlt))
  · exact e
  · exact absurd he.symm (cmpP_ne (h j i hj hi hlt))
theorem srt_lt {L : List PosS} (h : Srt L) {i j : Nat} (hij : i < j) (hj : j < L.length) : cmpP (L[i]'(by omega)) L[j] = -1 := by
  unfold Srt at h
  rw [List.pairwise_iff_getElem] at h
  exact h i j (by omega) hj hij
theorem findS_at {L : List PosS} (h : Srt L) {i : Nat} (hi : i < L.length) {p : PosS} (he : L[i] = p) : findS L p = i := by
  have hm : p ∈ L := by rw [← he]; exact List.getElem_mem hi
  unfold findS
  rw [if_pos hm]
  have hl : L.idxOf p < L.length := List.idxOf_lt_length_iff.2 hm
  have := srt_idx h hl hi (by rw [List.getElem_idxOf hl, he])
  omega
theorem findS_none {L : List PosS} {p : PosS} (h : p ∉ L) : findS L p = -1 := by unfold findS; rw [if_neg h]
end Go.Proofs.Ytepbmgbomdekaaa
