/-
 A valid game is read from its text: readG (writtenG g) = g; two valid games with the same text are the same.
-/
import Derived.Test.YtbmcngoeinginaaGreatDoorCBkC
namespace Go.Proofs.YtbmcngoeinginaaGreatDoor
open Go Go.RowKit Go.Lib
theorem line_flat (xs : List (List UInt8)) (L : List (List UInt8)) : lineT xs ++ flatL L = flatL (Lib.join xs [32] :: L) := by
 have e : flatL (Lib.join xs [32] :: L) = (Lib.join xs [32] ++ [10]) ++ flatL L := by simp [flatL]
 rw [e]
 rfl
theorem dirs_flat : ∀ rows : List (List Int), (rows.map dirT).flatten = flatL (rows.map dirL)
 | [] => rfl
 | r :: rows => by
   rw [List.map_cons, List.flatten_cons, dirs_flat rows, List.map_cons];exact line_flat _ _
theorem progT_line {p : List (Int × Int)} (h : validP p 8 6 4 = true) : progT p = lineT (wProg :: p.map writtenS) := by
 have hl := (valid_len h).1
 unfold progT lineT printS
 rw [if_pos h, join_spaced, join_spaced]
 cases hm : p.map writtenS with
 | nil =>
   have := congrArg List.length hm;simp only [List.length_map, List.length_nil] at this
   omega
 | cons y ys =>
   have e2 : Go.Lib.join (y :: ys) [32] = y ++ spaced ys := join_spaced y ys
   first
     | (rw [e2]; simp [spaced])
     | (simp [spaced, e2])
theorem progs_flat : ∀ ps : List (List (Int × Int)), (∀ p ∈ ps, validP p 8 6 4 = true) → (ps.map progT).flatten = flatL (ps.map progLn)
 | [], _ => rfl
 | p :: ps, h => by
   rw [List.map_cons, List.flatten_cons, progs_flat ps (fun x hx => h x (by simp [hx])), progT_line (h p (by simp)), List.map_cons];exact line_flat _ _
theorem kind_flat (k : KindD) (h : ∀ p ∈ k.progs, validP p 8 6 4 = true) : kindT k = flatL (kindLs k) := by
 unfold kindT kindLs
 rw [progs_flat k.progs h, ← line_flat]
 unfold kindL
 split <;> rfl
theorem kinds_flat : ∀ ks : List KindD, (∀ k ∈ ks, ∀ p ∈ k.progs, validP p 8 6 4 = true) → kindsT ks = flatL ((ks.map kindLs).flatten)
 | [], _ => rfl
 | k :: ks, h => by
   have ih := kinds_flat ks (fun x hx => h x (by simp [hx]));unfold kindsT at ih ⊢;rw [List.map_cons, List.flatten_cons, ih, kind_flat k (h k (by simp)), List.map_cons, List.flatten_cons, flatL_append]
theorem clauses_flat (g : GameD) : ∀ cs : List ClauseD, (cs.map (clauseT g)).flatten = flatL (cs.map (clauseLn g))
 | [] => rfl
 | c :: cs => by
   rw [List.map_cons, List.flatten_cons, clauses_flat g cs, List.map_cons];exact line_flat _ _
theorem written_flat {g : GameD} (h : validG g = true) : writtenG g = flatL (linesG g) := by
 have hK := kind_of h
 have hm : mustT g = flatL (mustLn g) := by
   unfold mustT mustLn
   split
   · simp [flatL, lineT]
   · rfl
 have fnil : flatL [] = [] := rfl
 unfold writtenG boardT linesG
 rw [kinds_flat g.kinds (fun k hk => (hK k hk).2.2), dirs_flat, clauses_flat, hm]
 simp only [← line_flat, flatL_append, fnil, List.append_assoc, List.append_nil]
theorem progs_len (g : GameD) (h : validG g = true) : ((g.kinds.map kindLs).flatten).length ≤ 54 := by
 have B := validG_bounds h
 have hK := kind_of h
 have key : ∀ ks : List KindD, (∀ k ∈ ks, k.progs.length ≤ 8) → ((ks.map kindLs).flatten).length ≤ ks.length * 9 := fun ks => by
   induction ks with
   | nil => intro _; simp
   | cons k ks ih =>
     intro hk;have h1 := hk k (by simp);have h2 := ih (fun x hx => hk x (by simp [hx]));rw [List.map_cons, List.flatten_cons, List.length_append, List.length_cons]
     have e : (kindLs k).length = k.progs.length + 1 := by simp [kindLs]
     omega
 have := key g.kinds (fun k hk => (hK k hk).2.1)
 have := B.kinds
 omega
theorem lines_len {g : GameD} (h : validG g = true) : (linesG g).length ≤ 74 := by
 have B := validG_bounds h
 have hp := progs_len g h
 have hm : (mustLn g).length ≤ 1 := by unfold mustLn; split <;> simp
 have := B.next
 have := B.clauses
 unfold linesG
 simp only [List.length_cons, List.length_append, List.length_map, List.length_nil]
 omega
theorem lines_free {g : GameD} (h : validG g = true) : ∀ l ∈ linesG g, (10 : UInt8) ∉ l := by
 have B := validG_bounds h
 have hK := kind_of h
 have two : ∀ x y : List UInt8, WordB x → WordB y → (10 : UInt8) ∉ Lib.join [x, y] [32] := fun x y hx hy => (line_words hx (fun z hz => by simp only [List.mem_cons, List.not_mem_nil, or_false] at hz; subst hz; exact hy)).1
 intro l hl
 unfold linesG at hl
 simp only [List.mem_cons, List.mem_append, List.not_mem_nil, or_false] at hl
 rcases hl with rfl | hl | rfl | hl | rfl | hl | hl | rfl | rfl
 · refine (line_words ⟨by decide, by decide⟩ fun z hz => ?_).1
   simp only [List.mem_cons, List.not_mem_nil, or_false] at hz
   rcases hz with rfl | rfl <;> exact word_itoa _
 · obtain ⟨r, _, rfl⟩ := List.mem_map.1 hl
   exact (line_words ⟨by decide, by decide⟩ (itoa_words r)).1
 · exact (line_words ⟨by decide, by decide⟩ (itoa_words _)).1
 · obtain ⟨ll, hll, hl⟩ := List.mem_flatten.1 hl
   obtain ⟨k, hk, rfl⟩ := List.mem_map.1 hll;have hw := word_name (hK k hk).1;unfold kindLs at hl
   rcases List.mem_cons.1 hl with rfl | hl
   · split
     · refine (line_words ⟨by decide, by decide⟩ fun z hz => ?_).1
       simp only [List.mem_cons, List.not_mem_nil, or_false] at hz
       rcases hz with rfl | rfl
       · exact hw
       · exact ⟨by decide, by decide⟩
     · exact two _ _ ⟨by decide, by decide⟩ hw
   · obtain ⟨p, hp, rfl⟩ := List.mem_map.1 hl
     exact (line_words ⟨by decide, by decide⟩ (word_step ((hK k hk).2.2 p hp))).1
 · exact two _ _ ⟨by decide, by decide⟩ (word_itoa _)
 · unfold mustLn at hl
   split at hl
   · simp only [List.mem_cons, List.not_mem_nil, or_false] at hl; subst hl; decide
   · cases hl
 · obtain ⟨c, hc, rfl⟩ := List.mem_map.1 hl
   obtain ⟨ls, e, h1, h2, h3⟩ := clause_lined h hc
   have e2 : clauseT g c = flatL [clauseLn g c] := by simp [flatL, clauseT, lineT, clauseLn]
   intro hm
   have hcl : (10 : UInt8) ∉ clauseLn g c := by
     obtain ⟨l1, rfl⟩ : ∃ l1, ls = [l1] := by
       match ls, h2, h3 with
       | [l1], _, _ => exact ⟨l1, rfl⟩
     have e3 : clauseLn g c ++ [10] = l1 ++ [10] := by
       have := e2.symm.trans e
       simpa [flatL] using this
     rw [List.append_cancel_right e3];exact (h1 l1 (by simp)).1
   exact hcl hm
 · exact two _ _ ⟨by decide, by decide⟩ (word_res B.blocked)
 · exact two _ _ ⟨by decide, by decide⟩ (word_res B.endless)
theorem gread_written {g : GameD} (h : validG g = true) : readG (writtenG g) = g := by
 rw [written_flat h, read_lines _ (by unfold linesG; simp) (lines_free h) (lines_len h), fold_lines_g h]
end Go.Proofs.YtbmcngoeinginaaGreatDoor
