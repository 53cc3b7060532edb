/-
 The text of a game as lines: what cutting it gives, and that a line that is left out, or a space put at a line's end, leaves no text of a game.
-/
import Derived.Test.YtbmcngoeinginaaGreatDoorCCut
namespace Go.Proofs.YtbmcngoeinginaaGreatDoor
open Go Go.RowKit Go.Lib
def flatL (ls : List (List UInt8)) : List UInt8 := (ls.map (· ++ [10])).flatten
def cstep (d : UInt8) (p : List (List UInt8) × List UInt8) (c : UInt8) : List (List UInt8) × List UInt8 := if c = d then (p.1 ++ [p.2], []) else (p.1, p.2 ++ [c])
theorem cutTo_fold (s : List UInt8) (d : UInt8) : ∀ q, q ≤ s.length → cutTo s d q = (s.take q).foldl (cstep d) ([], [])
 | 0, _ => by simp [cutTo]
 | q + 1, h => by
   have ih := cutTo_fold s d q (by omega);have e : s[q]? = some (s[q]'(by omega)) := List.getElem?_eq_getElem (by omega);rw [List.take_add_one, e, Option.toList_some, List.foldl_append, ← ih]
   show (if s[q]?.getD 0 = d then _ else _) = _
   rw [e]
   rfl
theorem fold_free (d : UInt8) : ∀ (x : List UInt8) (a : List (List UInt8)) (b : List UInt8), d ∉ x → x.foldl (cstep d) (a, b) = (a, b ++ x)
 | [], a, b, _ => by simp
 | c :: x, a, b, h => by
   have h1 : c ≠ d := fun e => h (by simp [e])
   have h2 : d ∉ x := fun e => h (by simp [e])
   rw [List.foldl_cons, show cstep d (a, b) c = (a, b ++ [c]) from if_neg h1, fold_free d x _ _ h2]
   simp
theorem fold_lines : ∀ (ls : List (List UInt8)) (a : List (List UInt8)), (∀ l ∈ ls, (10 : UInt8) ∉ l) → (flatL ls).foldl (cstep 10) (a, []) = (a ++ ls, [])
 | [], a, _ => by simp [flatL]
 | l :: ls, a, h => by
   have h1 := h l (by simp)
   have e : flatL (l :: ls) = l ++ ([10] ++ flatL ls) := by simp [flatL]
   rw [e, List.foldl_append, fold_free 10 l a [] h1, List.foldl_append]
   have e2 : [10].foldl (cstep 10) (a, [] ++ l) = (a ++ [l], []) := by simp [cstep]
   rw [e2, fold_lines ls _ (fun x hx => h x (by simp [hx]))]
   simp
theorem cutS_lines {ls : List (List UInt8)} (h : ∀ l ∈ ls, (10 : UInt8) ∉ l) : cutS (flatL ls) 10 = ls ++ [[]] := by
 unfold cutS
 rw [cutTo_fold _ _ _ (Nat.le_refl _), List.take_length, fold_lines ls [] h]
 rfl
theorem flatL_append (a b : List (List UInt8)) : flatL (a ++ b) = flatL a ++ flatL b := by simp [flatL]
/-! ### Words and lines -/
def WordB (x : List UInt8) : Prop := x ≠ [] ∧ ∀ c ∈ x, c ≠ 10 ∧ c ≠ 32
def LineB (l : List UInt8) : Prop := (10 : UInt8) ∉ l ∧ l.getLast? ≠ some 32
theorem word_last {x : List UInt8} (h : WordB x) (p : List UInt8) : (p ++ x).getLast? ≠ some 32 := by
 intro e
 have e2 : (p ++ x).getLast? = x.getLast? := by
   rw [List.getLast?_append]
   cases hh : x.getLast? with
   | none => exact absurd (List.getLast?_eq_none_iff.1 hh) h.1
   | some v => rfl
 rw [e2] at e
 exact (h.2 32 (List.mem_of_getLast? e)).2 rfl
theorem spaced_last : ∀ (xs : List (List UInt8)) (x p : List UInt8), WordB x → (∀ y ∈ xs, WordB y) → (p ++ x ++ spaced xs).getLast? ≠ some 32
 | [], x, p, hx, _ => by simpa [spaced] using word_last hx p
 | y :: ys, x, p, hx, h => by
   have e : p ++ x ++ spaced (y :: ys) = (p ++ x ++ [32]) ++ y ++ spaced ys := by simp [spaced]
   rw [e];exact spaced_last ys y _ (h y (by simp)) (fun z hz => h z (by simp [hz]))
theorem spaced_free : ∀ (xs : List (List UInt8)), (∀ y ∈ xs, WordB y) → (10 : UInt8) ∉ spaced xs := by
 intro xs h hm
 unfold spaced at hm
 obtain ⟨y, hy, hc⟩ := List.mem_flatMap.1 hm
 rcases List.mem_cons.1 hc with hc | hc
 · exact absurd hc (by decide)
 · exact ((h y hy).2 10 hc).1 rfl
theorem line_words {x : List UInt8} {xs : List (List UInt8)} (hx : WordB x) (h : ∀ y ∈ xs, WordB y) : LineB (Lib.join (x :: xs) [32]) := by
 rw [join_spaced]
 refine ⟨fun hm => ?_, by simpa using spaced_last xs x [] hx h⟩
 rcases List.mem_append.1 hm with hm | hm
 · exact (hx.2 10 hm).1 rfl
 · exact spaced_free xs h hm
theorem dec_word : ∀ (u : Nat), ∀ c ∈ Lib.decDigits u, 48 ≤ c.toNat ∧ c.toNat ≤ 57 := by
 intro u
 induction u using Nat.strongRecOn with
 | _ u ih =>
   intro c hc;rw [Lib.decDigits] at hc
   split at hc
   · simp only [List.mem_cons, List.not_mem_nil, or_false] at hc
     subst hc
     simp
     omega
   · rcases List.mem_append.1 hc with hc | hc
     · exact ih (u / 10) (by omega) c hc
     · simp only [List.mem_cons, List.not_mem_nil, or_false] at hc
       subst hc;have : u % 10 < 10 := Nat.mod_lt _ (by decide)
       simp
       omega
theorem dec_ne (u : Nat) : Lib.decDigits u ≠ [] := by
 rw [Lib.decDigits]
 split <;> simp
theorem byte_ne {c : UInt8} {a b : Nat} (h : a ≤ c.toNat ∧ c.toNat ≤ b) (ha : 33 ≤ a) : c ≠ 10 ∧ c ≠ 32 := by
 constructor
 · rintro rfl; have : (10 : UInt8).toNat = 10 := rfl; omega
 · rintro rfl; have : (32 : UInt8).toNat = 32 := rfl; omega
theorem word_dec (u : Nat) : WordB (Lib.decDigits u) := ⟨dec_ne u, fun c hc => byte_ne (dec_word u c hc) (by omega)⟩
theorem word_itoa (n : Int) : WordB (itoa n) := by
 unfold itoa
 split
 · refine ⟨by simp, fun c hc => ?_⟩
   rcases List.mem_cons.1 hc with rfl | hc
   · decide
   · exact (word_dec _).2 c hc
 · exact word_dec _
theorem word_name {x : List UInt8} (h : nameB x = true) : WordB x := by
 unfold nameB at h
 simp only [Bool.and_eq_true, decide_eq_true_eq] at h
 refine ⟨fun e => by rw [e] at h; simp at h, fun c hc => ?_⟩
 have h2 := List.all_eq_true.1 h.2.2 c hc
 unfold letB at h2
 simp only [Bool.and_eq_true, decide_eq_true_eq] at h2
 exact byte_ne h2 (by omega)
theorem word_res {n : Int} (h : 1 ≤ n ∧ n ≤ 3) : WordB (resW n.toNat) := by
 have : n = 1 ∨ n = 2 ∨ n = 3 := by omega
 rcases this with rfl | rfl | rfl <;> exact ⟨by decide, by decide⟩
theorem word_op : ∀ op, 0 < op → op < 11 → WordB (wordL[op]?.getD []) := by
 intro op h0 h11
 have : op = 1 ∨ op = 2 ∨ op = 3 ∨ op = 4 ∨ op = 5 ∨ op = 6 ∨ op = 7 ∨ op = 8 ∨ op = 9 ∨ op = 10 := by omega
 rcases this with rfl | rfl | rfl | rfl | rfl | rfl | rfl | rfl | rfl | rfl <;> exact ⟨by decide, by decide⟩
theorem word_step {l : List (Int × Int)} (h : validP l 8 6 4 = true) : ∀ x ∈ l.map writtenS, WordB x := by
 intro x hx
 obtain ⟨y, hy, rfl⟩ := List.mem_map.1 hx
 obtain ⟨j, hj, rfl⟩ := List.mem_iff_getElem.1 hy
 obtain ⟨op, n, e, h0, h11, hn⟩ := valid_step h hj
 rw [List.getElem?_eq_getElem hj, Option.getD_some] at e
 rw [e]
 have hw := word_op op h0 h11
 unfold writtenS
 refine ⟨fun e => hw.1 (List.append_eq_nil_iff.1 e).1, fun c hc => ?_⟩
 rcases List.mem_append.1 hc with hc | hc
 · exact hw.2 c hc
 · split at hc
   · simp at hc
   · exact (word_itoa _).2 c hc
def Lined (s : List UInt8) (a b : Nat) : Prop := ∃ ls : List (List UInt8), s = flatL ls ∧ (∀ l ∈ ls, LineB l) ∧ a ≤ ls.length ∧ ls.length ≤ b
theorem Lined.app {s t : List UInt8} {a b c d : Nat} (h : Lined s a b) (k : Lined t c d) : Lined (s ++ t) (a + c) (b + d) := by
 obtain ⟨x, rfl, x1, x2, x3⟩ := h
 obtain ⟨y, rfl, y1, y2, y3⟩ := k
 exact ⟨x ++ y, (flatL_append x y).symm, fun l hl => (List.mem_append.1 hl).elim (x1 l) (y1 l), by rw [List.length_append]; omega, by rw [List.length_append]; omega⟩
theorem Lined.nil : Lined [] 0 0 := ⟨[], rfl, by simp, by simp, by simp⟩
theorem Lined.one {x : List UInt8} {xs : List (List UInt8)} (hx : WordB x) (h : ∀ y ∈ xs, WordB y) : Lined (lineT (x :: xs)) 1 1 :=
 ⟨[Lib.join (x :: xs) [32]], by simp [flatL, lineT], fun l hl => by simp only [List.mem_cons, List.not_mem_nil, or_false] at hl; subst hl; exact line_words hx h, by simp, by simp⟩
end Go.Proofs.YtbmcngoeinginaaGreatDoor
