/-
 How long the pieces of a text are that is cut, and how many.
-/
import Derived.Test.YtbmcngoeinginaaGreatDoorKRdF
namespace Go.Proofs.YtbmcngoeinginaaGreatDoor
open Go Go.RowKit Go.Lib
def FreeB (m : Nat) (d : UInt8) (t : List UInt8) : Prop := ∀ p x q, t = p ++ x ++ q → d ∉ x → x.length ≤ m
theorem FreeB.of_len {m : Nat} {d : UInt8} {t : List UInt8} (h : t.length ≤ m) : FreeB m d t := fun p x q e _ => by
 rw [e] at h
 simp only [List.length_append] at h
 omega
theorem FreeB.left {m : Nat} {d : UInt8} {u v : List UInt8} (h : FreeB m d (u ++ v)) : FreeB m d u := fun p x q e hx => h p x (q ++ v) (by rw [e]; simp) hx
theorem FreeB.right {m : Nat} {d : UInt8} {u v : List UInt8} (h : FreeB m d (u ++ v)) : FreeB m d v := fun p x q e hx => h (u ++ p) x q (by rw [e]; simp) hx
theorem FreeB.app {m n : Nat} {d : UInt8} {u v : List UInt8} (h : FreeB m d u) (k : FreeB n d v) : FreeB (m + n) d (u ++ v) := fun p x q e hx => by
 rw [List.append_assoc] at e
 rcases List.append_eq_append_iff.1 e with ⟨a, e1, e2⟩ | ⟨c, e1, e2⟩
 · exact Nat.le_trans (k a x q (by rw [e2]; simp) hx) (by omega)
 · rcases List.append_eq_append_iff.1 e2 with ⟨a, e3, e4⟩ | ⟨b, e3, e4⟩
   · have := h p x a (by rw [e1, e3]; simp) hx
     omega
   · rw [e3] at hx ⊢
     have h1 := h p c [] (by rw [e1]; simp) (fun hc => hx (by simp [hc]))
     have h2 := k [] b q (by rw [e4]; simp) (fun hc => hx (by simp [hc]))
     rw [List.length_append]
     omega
theorem FreeB.sep {m : Nat} {d : UInt8} {u v : List UInt8} (h : FreeB m d u) (k : FreeB m d v) : FreeB m d (u ++ d :: v) := fun p x q e hx => by
 rw [List.append_assoc] at e
 rcases List.append_eq_append_iff.1 e with ⟨a, e1, e2⟩ | ⟨c, e1, e2⟩
 · cases a with
   | nil =>
     cases x with
     | nil => simp
     | cons y x =>
       simp only [List.nil_append, List.cons_append, List.cons.injEq] at e2
       exact absurd (by rw [e2.1]; simp) hx
   | cons y a =>
     simp only [List.cons_append, List.cons.injEq] at e2
     exact k a x q (by rw [e2.2]; simp) hx
 · rcases List.append_eq_append_iff.1 e2 with ⟨a, e3, e4⟩ | ⟨b, e3, e4⟩
   · exact h p x a (by rw [e1, e3]; simp) hx
   · cases b with
     | nil =>
       rw [e3, List.append_nil] at hx ⊢
       exact h p c [] (by rw [e1]; simp) hx
     | cons y b =>
       simp only [List.cons_append, List.cons.injEq] at e4
       exact absurd (by rw [e3, e4.1]; simp) hx
theorem free_lines {m : Nat} : ∀ ls : List (List UInt8), (∀ l ∈ ls, l.length ≤ m) → FreeB m 10 (flatL ls)
 | [], _ => FreeB.of_len (by simp [flatL])
 | l :: ls, h => by
   have e : flatL (l :: ls) = l ++ 10 :: flatL ls := by simp [flatL]
   rw [e];exact (FreeB.of_len (h l (by simp))).sep (free_lines ls (fun x hx => h x (by simp [hx])))
theorem cstep_if (d c : UInt8) (a : List (List UInt8)) (b : List UInt8) : cstep d (a, b) c = if c = d then (a ++ [b], []) else (a, b ++ [c]) := rfl
theorem fold_infix (d : UInt8) : ∀ (t : List UInt8) (a : List (List UInt8)) (b s : List UInt8), (∀ x ∈ a, d ∉ x ∧ ∃ p q, s = p ++ x ++ q) → d ∉ b → (∃ p, s = p ++ b) →
   (∀ x ∈ (t.foldl (cstep d) (a, b)).1, d ∉ x ∧ ∃ p q, s ++ t = p ++ x ++ q) ∧ d ∉ (t.foldl (cstep d) (a, b)).2 ∧ ∃ p, s ++ t = p ++ (t.foldl (cstep d) (a, b)).2
 | [], a, b, s, ha, hb, hp => by
   rw [List.append_nil];exact ⟨ha, hb, hp⟩
 | c :: t, a, b, s, ha, hb, ⟨p, hp⟩ => by
   have e : s ++ c :: t = (s ++ [c]) ++ t := by simp
   rw [List.foldl_cons, e, cstep_if]
   split
   · refine fold_infix d t _ _ (s ++ [c]) (fun x hx => ?_) (by simp) ⟨s ++ [c], by simp⟩
     rcases List.mem_append.1 hx with h | h
     · obtain ⟨h1, p1, q1, e1⟩ := ha x h
       exact ⟨h1, p1, q1 ++ [c], by rw [e1]; simp⟩
     · rw [List.mem_singleton.1 h]
       exact ⟨hb, p, [c], by rw [hp]⟩
   · rename_i hc
     refine fold_infix d t _ _ (s ++ [c]) (fun x hx => ?_) (fun hm => ?_) ⟨p, by rw [hp]; simp⟩
     · obtain ⟨h1, p1, q1, e1⟩ := ha x hx
       exact ⟨h1, p1, q1 ++ [c], by rw [e1]; simp⟩
     · rcases List.mem_append.1 hm with h | h
       · exact hb h
       · exact hc (List.mem_singleton.1 h).symm
theorem cutS_fold (s : List UInt8) (d : UInt8) : cutS s d = (s.foldl (cstep d) ([], [])).1 ++ [(s.foldl (cstep d) ([], [])).2] := by
 unfold cutS
 rw [cutTo_fold s d s.length (Nat.le_refl _), List.take_length]
theorem cut_le {m : Nat} {d : UInt8} {s : List UInt8} (h : FreeB m d s) : ∀ x ∈ cutS s d, x.length ≤ m := fun x hx => by
 obtain ⟨h1, h2, p, h3⟩ := fold_infix d s [] [] [] (by simp) (by simp) ⟨[], rfl⟩
 rw [cutS_fold] at hx
 rcases List.mem_append.1 hx with hx | hx
 · obtain ⟨ha, p, q, e⟩ := h1 x hx
   exact h p x q (by simpa using e) ha
 · rw [List.mem_singleton.1 hx]
   exact h p _ [] (by simpa using h3) h2
theorem fold_count (d : UInt8) : ∀ (t : List UInt8) (a : List (List UInt8)) (b : List UInt8), (t.foldl (cstep d) (a, b)).1.length = a.length + t.count d
 | [], a, b => by simp
 | c :: t, a, b => by
   rw [List.foldl_cons, cstep_if]
   split
   · rename_i h
     rw [fold_count d t, List.count_cons]
     simp [h]; omega
   · rename_i h
     rw [fold_count d t, List.count_cons]
     simp [h]
theorem cut_count (s : List UInt8) (d : UInt8) : (cutS s d).length = s.count d + 1 := by
 rw [cutS_fold, List.length_append, fold_count]
 simp
theorem count_lines : ∀ ls : List (List UInt8), (∀ l ∈ ls, (10 : UInt8) ∉ l) → (flatL ls).count 10 = ls.length
 | [], _ => by simp [flatL]
 | l :: ls, h => by
   have e : flatL (l :: ls) = l ++ 10 :: flatL ls := by simp [flatL]
   rw [e, List.count_append, List.count_cons, count_lines ls (fun x hx => h x (by simp [hx])), List.count_eq_zero.2 (h l (by simp))]
   simp
structure Cuts (t : List UInt8) : Prop where
 len : t.length ≤ 100000
 lines : (cutS t 10).length ≤ 1900
 words : ∀ x ∈ cutS t 10, (cutS x 32).length ≤ 1900
theorem cuts_of {m : Nat} {t : List UInt8} (h1 : t.length ≤ 100000) (h2 : t.count 10 ≤ 1899) (h3 : FreeB m 10 t) (hm : m ≤ 1899) : Cuts t :=
 ⟨h1, by rw [cut_count]; omega, fun x hx => by
   have h := cut_le h3 x hx;rw [cut_count];have := List.count_le_length (a := (32 : UInt8)) (l := x)
   omega⟩
end Go.Proofs.YtbmcngoeinginaaGreatDoor
