/-
 The lines of a game are short.
-/
import Derived.Test.YtbmcngoeinginaaGreatDoorKPcs
namespace Go.Proofs.YtbmcngoeinginaaGreatDoor
open Go Go.RowKit Go.Lib
theorem itoa_all : ((List.range 66).all fun k => decide ((itoa ((k : Int) - 1)).length ≤ 2)) = true := by decide +kernel
theorem itoa_two {n : Int} (h : -1 ≤ n ∧ n ≤ 64) : (itoa n).length ≤ 2 := by
 have h1 := List.all_eq_true.1 itoa_all (n + 1).toNat (List.mem_range.2 (by omega))
 rw [decide_eq_true_eq] at h1
 have e : (((n + 1).toNat : Nat) : Int) - 1 = n := by omega
 rw [e] at h1
 exact h1
theorem join_short (M n : Nat) (xs : List (List UInt8)) (h : ∀ x ∈ xs, x.length ≤ M) (hn : xs.length ≤ n) : (Lib.join xs [32]).length ≤ n * (M + 1) :=
 Nat.le_trans (join_le M xs h) (Nat.mul_le_mul_right _ hn)
theorem lines_short {g : GameD} (h : validG g = true) : ∀ l ∈ linesG g, l.length ≤ 600 := by
 have B := validG_bounds h
 have hK := kind_of h
 have hI : ∀ n : Int, -1000 ≤ n → n ≤ 1000 → (itoa n).length ≤ 21 := fun n a b => itoa_le n (by omega) (by omega)
 have hnm : ∀ k : Int, (kindNm g k).length ≤ 8 := by
   intro k;unfold kindNm
   by_cases hk : k.toNat < g.kinds.length
   · rw [List.getElem?_eq_getElem hk, Option.getD_some]; exact (B.kind _ (List.getElem_mem hk)).1
   · rw [List.getElem?_eq_none (by omega)]; simp
 intro l hl
 unfold linesG at hl
 simp only [List.mem_cons, List.mem_append, List.not_mem_nil, or_false] at hl
 rcases hl with rfl | hl | rfl | hl | rfl | hl | hl | rfl | rfl
 · refine Nat.le_trans (join_short 21 3 _ (fun x hx => ?_) (by simp)) (by decide)
   simp only [List.mem_cons, List.not_mem_nil, or_false] at hx;have := B.cells;have := B.next
   rcases hx with rfl | rfl | rfl
   · decide
   · exact hI _ (by omega) (by omega)
   · exact hI _ (by omega) (by omega)
 · obtain ⟨r, hr, rfl⟩ := List.mem_map.1 hl
   have hrr := B.row r hr;unfold dirL
   refine Nat.le_trans (join_short 3 65 _ (fun x hx => ?_) (by simp; omega)) (by decide)
   rcases List.mem_cons.1 hx with rfl | hx
   · decide
   · obtain ⟨z, hz, rfl⟩ := List.mem_map.1 hx
     exact Nat.le_trans (itoa_two (hrr.2 z hz)) (by decide)
 · refine Nat.le_trans (join_short 21 9 _ (fun x hx => ?_) (by have := B.turn; simp; omega)) (by decide)
   rcases List.mem_cons.1 hx with rfl | hx
   · decide
   · obtain ⟨z, hz, rfl⟩ := List.mem_map.1 hx
     have := B.tin z hz;exact hI _ (by omega) (by omega)
 · obtain ⟨ll, hll, hl⟩ := List.mem_flatten.1 hl
   obtain ⟨k, hk, rfl⟩ := List.mem_map.1 hll;have hkk := B.kind k hk;unfold kindLs at hl
   rcases List.mem_cons.1 hl with rfl | hl
   · refine Nat.le_trans (join_short 8 3 _ (fun y hy => ?_) (by split <;> simp)) (by decide)
     split at hy
     · simp only [List.mem_cons, List.not_mem_nil, or_false] at hy
       rcases hy with rfl | rfl | rfl
       · decide
       · exact hkk.1
       · decide
     · simp only [List.mem_cons, List.not_mem_nil, or_false] at hy
       rcases hy with rfl | rfl
       · decide
       · exact hkk.1
   · obtain ⟨p, hp, rfl⟩ := List.mem_map.1 hl
     have hv := (hK k hk).2.2 p hp;obtain ⟨h1, h8⟩ := valid_len hv;unfold progLn
     refine Nat.le_trans (join_short 8 9 _ (fun x hx => ?_) (by simp; omega)) (by decide)
     rcases List.mem_cons.1 hx with rfl | hx
     · decide
     · obtain ⟨y, hy, rfl⟩ := List.mem_map.1 hx
       obtain ⟨j, hj⟩ := List.getElem?_of_mem hy;obtain ⟨op, n, e, _, _, hn⟩ := valid_step hv (List.getElem?_eq_some_iff.1 hj).1;rw [hj, Option.getD_some] at e;rw [e];exact written_len op n (by omega)
 · refine Nat.le_trans (join_short 21 2 _ (fun x hx => ?_) (by simp)) (by decide)
   simp only [List.mem_cons, List.not_mem_nil, or_false] at hx;have := B.rights
   rcases hx with rfl | rfl
   · decide
   · exact hI _ (by omega) (by omega)
 · unfold mustLn at hl
   split at hl
   · simp only [List.mem_cons, List.not_mem_nil, or_false] at hl; subst hl; decide
   · cases hl
 · obtain ⟨c, hc, rfl⟩ := List.mem_map.1 hl
   have hcb := B.clause c hc
   have hn : (itoa c.n).length ≤ 21 := by
     unfold clauseB rightB at hcb;rw [Bool.and_eq_true] at hcb;have h2 := hcb.2;have := B.cells
     have h3 : -1000 ≤ c.n ∧ c.n ≤ 1000 := by
       split at h2
       · simp only [Bool.and_eq_true, decide_eq_true_eq] at h2; omega
       · split at h2
         · simp only [Bool.and_eq_true, decide_eq_true_eq] at h2; omega
         · split at h2
           · simp only [Bool.and_eq_true, decide_eq_true_eq] at h2; omega
           · cases h2
     exact hI _ h3.1 h3.2
   unfold clauseLn
   refine Nat.le_trans (join_short 21 4 _ (fun y hy => ?_) (by unfold clauseL; (repeat' split) <;> simp)) (by decide)
   have r1 := resW_le c.out.toNat;have r2 := hnm c.kind;unfold clauseL at hy
   (repeat' (split at hy))
   all_goals simp only [List.mem_cons, List.not_mem_nil, or_false] at hy
   · rcases hy with rfl | rfl | rfl
     · decide
     · omega
     · omega
   · rcases hy with rfl | rfl | rfl | rfl
     · decide
     · omega
     · exact hn
     · omega
   · rcases hy with rfl | rfl | rfl
     · decide
     · exact hn
     · omega
 · have r1 := resW_le g.blocked.toNat
   refine Nat.le_trans (join_short 21 2 _ (fun x hx => ?_) (by simp)) (by decide);simp only [List.mem_cons, List.not_mem_nil, or_false] at hx
   rcases hx with rfl | rfl
   · decide
   · omega
 · have r1 := resW_le g.endless.toNat
   refine Nat.le_trans (join_short 21 2 _ (fun x hx => ?_) (by simp)) (by decide);simp only [List.mem_cons, List.not_mem_nil, or_false] at hx
   rcases hx with rfl | rfl
   · decide
   · omega
theorem text_free {g : GameD} (h : validG g = true) : FreeB 600 10 (writtenG g) ∧ (writtenG g).count 10 ≤ 74 ∧ (writtenG g).length ≤ 99000 := by
 rw [written_flat h]
 refine ⟨free_lines _ (lines_short h), ?_, ?_⟩
 · rw [count_lines _ (lines_free h)]; exact lines_len h
 · have h1 : ∀ ls : List (List UInt8), (∀ l ∈ ls, l.length ≤ 600) → (flatL ls).length ≤ ls.length * 601 := by
     intro ls
     induction ls with
     | nil => intro _; simp [flatL]
     | cons l ls ih =>
       intro hl
       have e : flatL (l :: ls) = l ++ 10 :: flatL ls := by simp [flatL]
       have h2 := hl l (by simp);have h3 := ih (fun x hx => hl x (by simp [hx]));rw [e, List.length_append, List.length_cons, List.length_cons, Nat.add_mul]
       omega
   have h2 := h1 _ (lines_short h);have h3 := lines_len h;have h4 : (linesG g).length * 601 ≤ 74 * 601 := Nat.mul_le_mul_right _ h3
   omega
theorem cuts_small {s : List UInt8} (h : s.length ≤ 200) : Cuts s := cuts_of (m := 200) (by omega) (by have := List.count_le_length (a := (10 : UInt8)) (l := s); omega) (FreeB.of_len h) (by decide)
theorem cuts_text {g : GameD} (h : validG g = true) (i : Nat) : Cuts ((writtenG g).take i) := by
 obtain ⟨h1, h2, h3⟩ := text_free h
 have e : (writtenG g).take i ++ (writtenG g).drop i = writtenG g := List.take_append_drop _ _
 rw [← e] at h1
 refine cuts_of (m := 600) (by rw [List.length_take]; omega) ?_ h1.left (by decide)
 have := congrArg (List.count 10) e
 rw [List.count_append] at this
 omega
theorem cuts_odd {g : GameD} (h : validG g = true) (i : Nat) (b : UInt8) : Cuts ((writtenG g).take i ++ [b] ++ (writtenG g).drop (i + 1)) := by
 obtain ⟨h1, h2, h3⟩ := text_free h
 have e : (writtenG g).take i ++ (writtenG g).drop i = writtenG g := List.take_append_drop _ _
 have e2 : (writtenG g).take (i + 1) ++ (writtenG g).drop (i + 1) = writtenG g := List.take_append_drop _ _
 have f1 : FreeB 600 10 ((writtenG g).take i) := by rw [← e] at h1; exact h1.left
 have f2 : FreeB 600 10 ((writtenG g).drop (i + 1)) := by rw [← e2] at h1; exact h1.right
 have c1 := congrArg (List.count 10) e
 have c2 := congrArg (List.count 10) e2
 rw [List.count_append] at c1 c2
 have hb : List.count 10 [b] ≤ 1 := by have := List.count_le_length (a := (10 : UInt8)) (l := [b]); simpa using this
 refine cuts_of (m := 600 + 1 + 600) (by simp only [List.length_append, List.length_cons, List.length_nil, List.length_take, List.length_drop]; omega) (by rw [List.count_append, List.count_append]; omega) ((f1.app (FreeB.of_len (by simp))).app f2) (by decide)
theorem cuts_both {g : GameD} (h : validG g = true) {s : List UInt8} (hs : s.length ≤ 200) : Cuts (writtenG g ++ s) := by
 obtain ⟨h1, h2, h3⟩ := text_free h
 have hc := List.count_le_length (a := (10 : UInt8)) (l := s)
 exact cuts_of (m := 600 + 200) (by rw [List.length_append]; omega) (by rw [List.count_append]; omega) (h1.app (FreeB.of_len hs)) (by decide)
end Go.Proofs.YtbmcngoeinginaaGreatDoor
