/-
  Of the reference: Dirs; and what is true of lists of directions.
-/
import Derived.Test.YtidgdfjnjgonoaaGreatDoorQStep
import Derived.Test.YtidgdfjnjgonoaaGreatDoorPDirs
namespace Go.Proofs.YtidgdfjnjgonoaaGreatDoor
open Go Go.RowKit Go.Sort Go.Lib

theorem snoc_ind {α : Type} {P : List α → Prop} (h0 : P []) (h1 : ∀ l x, P l → P (l ++ [x])) (l : List α) : P l := by
  have : ∀ m : List α, P m.reverse := fun m => by
    induction m with
    | nil => exact h0
    | cons x m ih => rw [List.reverse_cons]; exact h1 _ x ih
  have h := this l.reverse
  rwa [List.reverse_reverse] at h

/-- One look at an element of the list into which n is put: what is written before it, and whether n has its place. -/
def putStep (n : Int) (s : List Int × Bool) (x : Int) : List Int × Bool :=
  (s.1 ++ ((if s.2 = false ∧ n < x then [n] else []) ++ [x]), s.2 || decide (n ≤ x))
def putTo (n : Int) (l : List Int) : List Int × Bool := l.foldl (putStep n) ([], false)
def putIn (n : Int) (l : List Int) : List Int := (putTo n l).1 ++ if (putTo n l).2 = false then [n] else []
def rdirsS (l : List (Int × Int)) : List Int := (dirsL l).foldl (fun o n => putIn n o) []
theorem putTo_snoc (n : Int) (l : List Int) (x : Int) : putTo n (l ++ [x]) = putStep n (putTo n l) x := by
  unfold putTo; rw [List.foldl_append]; rfl
theorem putTo_len (n : Int) (l : List Int) : (putTo n l).1.length ≤ 2 * l.length := by
  refine snoc_ind (P := fun l => (putTo n l).1.length ≤ 2 * l.length) (by simp [putTo]) (fun l x ih => ?_) l
  · rw [putTo_snoc]
    unfold putStep
    simp only [List.length_append, List.length_cons, List.length_nil]
    split <;> simp <;> omega
theorem rdirs_snoc (l : List (Int × Int)) (x : Int × Int) : rdirsS (l ++ [x]) = if hasDirB x.1 = true then putIn x.2 (rdirsS l) else rdirsS l := by
  unfold rdirsS
  rw [dirsL_snoc]
  by_cases h : hasDirB x.1 = true
  · rw [if_pos h, if_pos h, List.foldl_append]; rfl
  · rw [if_neg h, if_neg h, List.append_nil]

/-- Strictly increasing. -/
abbrev Incr (l : List Int) : Prop := l.Pairwise (· < ·)
theorem incr_ext {l m : List Int} (hl : Incr l) (hm : Incr m) (h : ∀ x, x ∈ l ↔ x ∈ m) : l = m := by
  induction l generalizing m with
  | nil =>
    cases m with
    | nil => rfl
    | cons y r => exact absurd ((h y).2 (by simp)) (by simp)
  | cons x l ih =>
    cases m with
    | nil => exact absurd ((h x).1 (by simp)) (by simp)
    | cons y r =>
      have hl := List.pairwise_cons.1 hl
      have hm := List.pairwise_cons.1 hm
      have e : x = y := by
        have h1 := (h x).1 (by simp)
        have h2 := (h y).2 (by simp)
        rw [List.mem_cons] at h1 h2
        rcases h1 with h1 | h1
        · exact h1
        · rcases h2 with h2 | h2
          · exact h2.symm
          · have := hl.1 y h2; have := hm.1 x h1; omega
      subst e
      congr 1
      apply ih hl.2 hm.2
      intro z
      have hz := h z
      rw [List.mem_cons, List.mem_cons] at hz
      constructor
      · intro hzl
        rcases hz.1 (.inr hzl) with e | e
        · have := hl.1 z hzl; omega
        · exact e
      · intro hzr
        rcases hz.2 (.inr hzr) with e | e
        · have := hm.1 z hzr; omega
        · exact e

/-- While n is put into an increasing list. -/
theorem putTo_ok (n : Int) (l : List Int) (hl : Incr l) :
    ((putTo n l).2 = false → (putTo n l).1 = l ∧ ∀ x ∈ l, x < n) ∧ ((putTo n l).2 = true → Incr (putTo n l).1 ∧ (∀ x, x ∈ (putTo n l).1 ↔ x = n ∨ x ∈ l) ∧ ∃ x ∈ l, n ≤ x) := by
  revert hl
  refine snoc_ind (P := fun l => Incr l → ((putTo n l).2 = false → (putTo n l).1 = l ∧ ∀ x ∈ l, x < n) ∧ ((putTo n l).2 = true → Incr (putTo n l).1 ∧ (∀ x, x ∈ (putTo n l).1 ↔ x = n ∨ x ∈ l) ∧ ∃ x ∈ l, n ≤ x)) (by simp [putTo]) (fun l x ih hl => ?_) l
  · have hl' := List.pairwise_append.1 hl
    obtain ⟨ih1, ih2⟩ := ih hl'.1
    have hx : ∀ y ∈ l, y < x := fun y hy => hl'.2.2 y hy x (by simp)
    rw [putTo_snoc]
    unfold putStep
    cases hd : (putTo n l).2 with
    | false =>
      obtain ⟨e1, e2⟩ := ih1 hd
      rw [e1]
      by_cases h1 : n < x
      · simp only [Bool.false_or, decide_eq_false_iff_not, decide_eq_true_eq]
        refine ⟨fun h => absurd h (by omega), fun _ => ⟨?_, ?_, x, by simp, by omega⟩⟩
        · rw [if_pos ⟨trivial, h1⟩]
          rw [Incr, List.pairwise_append]
          refine ⟨hl'.1, by simp [h1], ?_⟩
          intro y hy z hz
          simp at hz
          rcases hz with rfl | rfl
          · exact e2 y hy
          · exact hx y hy
        · intro y
          rw [if_pos ⟨trivial, h1⟩]
          simp
          constructor
          · rintro (h | h | h)
            · exact .inr (.inl h)
            · exact .inl h
            · exact .inr (.inr h)
          · rintro (h | h | h)
            · exact .inr (.inl h)
            · exact .inl h
            · exact .inr (.inr h)
      · rw [if_neg (by simp [h1])]
        simp only [Bool.false_or, decide_eq_false_iff_not, decide_eq_true_eq, List.nil_append]
        refine ⟨fun h => ⟨trivial, fun y hy => ?_⟩, fun h => ?_⟩
        · simp at hy
          rcases hy with hy | rfl
          · exact e2 y hy
          · omega
        · have e : n = x := by omega
          subst e
          refine ⟨hl, fun y => ?_, n, by simp, by omega⟩
          simp
          exact fun e => .inr e
    | true =>
      obtain ⟨e1, e2, z, hz, hnz⟩ := ih2 hd
      simp only [Bool.true_or, Bool.true_eq_false, false_and, if_false, List.nil_append]
      refine ⟨fun h => by first | cases h | exact h.elim, fun _ => ?_⟩
      refine ⟨?_, fun y => ?_, z, by simp [hz], hnz⟩
      · rw [Incr, List.pairwise_append]
        refine ⟨e1, by simp, fun y hy u hu => ?_⟩
        simp at hu
        subst hu
        rcases (e2 y).1 hy with rfl | hy
        · have := hx z hz; omega
        · exact hx y hy
      · rw [List.mem_append, List.mem_append, e2 y, or_assoc]
theorem putIn_ok (n : Int) (l : List Int) (hl : Incr l) : Incr (putIn n l) ∧ ∀ x, x ∈ putIn n l ↔ x = n ∨ x ∈ l := by
  obtain ⟨h1, h2⟩ := putTo_ok n l hl
  unfold putIn
  cases hd : (putTo n l).2 with
  | false =>
    obtain ⟨e1, e2⟩ := h1 hd
    rw [if_pos rfl, e1]
    refine ⟨?_, fun x => ?_⟩
    · rw [Incr, List.pairwise_append]
      exact ⟨hl, by simp, fun y hy z hz => by simp at hz; subst hz; exact e2 y hy⟩
    · simp; exact Or.comm
  | true =>
    obtain ⟨e1, e2, _⟩ := h2 hd
    rw [if_neg (by simp), List.append_nil]
    exact ⟨e1, e2⟩
theorem rdirs_ok (l : List (Int × Int)) : Incr (rdirsS l) ∧ ∀ x, x ∈ rdirsS l ↔ x ∈ dirsL l := by
  unfold rdirsS
  generalize dirsL l = ds
  refine snoc_ind (P := fun ds => Incr (ds.foldl (fun o n => putIn n o) []) ∧ ∀ x, x ∈ ds.foldl (fun o n => putIn n o) [] ↔ x ∈ ds) (by simp) (fun ds n ih => ?_) ds
  · rw [List.foldl_append]
    simp only [List.foldl_cons, List.foldl_nil]
    obtain ⟨a, b⟩ := putIn_ok n _ ih.1
    exact ⟨a, fun x => by rw [b, ih.2]; simp; exact Or.comm⟩

theorem compact_ok (d : Array Int) (h : ∀ i j, i ≤ j → j < d.size → d[i]! ≤ d[j]!) (m : Nat) (hm : m ≤ d.size) :
    Incr (compactUpTo d m) ∧ (∀ x, x ∈ compactUpTo d m ↔ ∃ j, j < m ∧ d[j]! = x) := by
  induction m with
  | zero => simp [compactUpTo]
  | succ m ih =>
    obtain ⟨a, b⟩ := ih (by omega)
    rw [compactUpTo_succ]
    cases hk : keeps d m with
    | true =>
      rw [if_pos rfl]
      refine ⟨?_, fun x => ?_⟩
      · rw [Incr, List.pairwise_append]
        refine ⟨a, by simp, fun y hy z hz => ?_⟩
        simp at hz
        subst hz
        obtain ⟨j, hj, rfl⟩ := (b y).1 hy
        have h1 := h j (m - 1) (by omega) (by omega)
        have h2 := h (m - 1) m (by omega) (by omega)
        have h3 : d[m]! ≠ d[m - 1]! := by
          unfold keeps at hk
          simp at hk
          rcases hk with hk | hk
          · omega
          · simpa using hk
        omega
      · rw [List.mem_append, b]
        simp
        constructor
        · rintro (⟨j, hj, e⟩ | e)
          · exact ⟨j, by omega, e⟩
          · exact ⟨m, by omega, e.symm⟩
        · rintro ⟨j, hj, e⟩
          by_cases hjm : j = m
          · subst hjm; exact .inr e.symm
          · exact .inl ⟨j, by omega, e⟩
    | false =>
      rw [if_neg (by simp), List.append_nil]
      refine ⟨a, fun x => ?_⟩
      rw [b]
      constructor
      · rintro ⟨j, hj, e⟩
        exact ⟨j, by omega, e⟩
      · rintro ⟨j, hj, e⟩
        by_cases hjm : j = m
        · subst hjm
          unfold keeps at hk
          simp at hk
          refine ⟨j - 1, by omega, ?_⟩
          rw [← e]
          exact hk.2.symm
        · exact ⟨j, by omega, e⟩
theorem dirs_ok (l : List (Int × Int)) : Incr (dirsS l) ∧ ∀ x, x ∈ dirsS l ↔ x ∈ dirsL l := by
  unfold dirsS compact
  have hp := List.pairwise_mergeSort (le := fun x y : Int => decide (x ≤ y)) (fun a b c h1 h2 => by simp at *; omega) (fun a b => by simp; omega) (dirsL l)
  have hmem : ∀ x, x ∈ (dirsL l).mergeSort (fun x y => decide (x ≤ y)) ↔ x ∈ dirsL l := fun x => List.mem_mergeSort
  generalize (dirsL l).mergeSort (fun x y => decide (x ≤ y)) = s at hp hmem ⊢
  have hs : ∀ i j, i ≤ j → j < s.toArray.size → s.toArray[i]! ≤ s.toArray[j]! := by
    intro i j hij hj
    have hj' : j < s.length := by simpa using hj
    have hi' : i < s.length := by omega
    have e1 : s.toArray[i]! = s[i] := by simp [hi']
    have e2 : s.toArray[j]! = s[j] := by simp [hj']
    rw [e1, e2]
    by_cases e : i = j
    · subst e; exact Int.le_refl _
    · have := (List.pairwise_iff_getElem.1 hp) i j hi' hj' (by omega)
      simpa using this
  obtain ⟨a, b⟩ := compact_ok s.toArray hs s.length (by simp)
  refine ⟨a, fun x => (b x).trans ?_⟩
  rw [← hmem]
  constructor
  · rintro ⟨j, hj, rfl⟩
    have e1 : s.toArray[j]! = s[j] := by simp [hj]
    rw [e1]; exact List.getElem_mem hj
  · intro hx
    obtain ⟨j, hj, rfl⟩ := List.getElem_of_mem hx
    exact ⟨j, hj, by simp [hj]⟩
theorem rdirs_eq (l : List (Int × Int)) : rdirsS l = dirsS l :=
  incr_ext (rdirs_ok l).1 (dirs_ok l).1 fun x => ((rdirs_ok l).2 x).trans ((dirs_ok l).2 x).symm
end Go.Proofs.YtidgdfjnjgonoaaGreatDoor
