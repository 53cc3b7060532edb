/-
 A valid game is read from its text.
-/
import Derived.Test.YtbmcngoeinginaaGreatDoorCBkB
namespace Go.Proofs.YtbmcngoeinginaaGreatDoor
open Go Go.RowKit Go.Lib
theorem find_of {g : GameD} (h : validG g = true) {k : Int} (h0 : 0 ≤ k) (hk : k < g.kinds.length) : findD g.kinds (kindNm g k) = k ∧ WordB (kindNm g k) := by
 have hN := kind_of h
 unfold validG at h
 simp only [Bool.and_eq_true] at h
 have hkb := h.2.1
 unfold kindsB at hkb
 simp only [Bool.and_eq_true] at hkb
 have hi : k.toNat < g.kinds.length := by omega
 have h2 := List.all_eq_true.1 hkb.2.2 k.toNat (List.mem_range.2 hi)
 unfold kindNm
 unfold kindAt at h2
 rw [List.getElem?_eq_getElem hi, Option.getD_some] at h2 ⊢
 unfold kindB at h2
 simp only [Bool.and_eq_true, decide_eq_true_eq] at h2
 exact ⟨by rw [h2.2.1]; omega, word_name (hN _ (List.getElem_mem hi)).1⟩
def clauseLn (g : GameD) (c : ClauseD) : List UInt8 := Lib.join (clauseL c.cond c.n (kindNm g c.kind) c.out.toNat) [32]
theorem clause_step {g : GameD} (h : validG g = true) {c : ClauseD} (hc : c ∈ g.clauses) (a : GameD) (hk : a.kinds = g.kinds) : lineG a (clauseLn g c) = { a with clauses := a.clauses ++ [c] } := by
 have B := validG_bounds h
 have hcb := B.clause c hc
 unfold clauseB rightB at hcb
 rw [Bool.and_eq_true] at hcb
 have hr := word_res (resB_in hcb.1)
 have ho := res_back (resB_in hcb.1)
 have h2 := hcb.2
 obtain ⟨cond, kind, n, out⟩ := c
 dsimp only at h2 hr ho ⊢
 unfold clauseLn clauseL
 dsimp only
 split
 · rename_i e
   rw [if_pos e] at h2;simp only [Bool.and_eq_true, decide_eq_true_eq] at h2;obtain ⟨hf, hw⟩ := find_of h h2.1.1 h2.1.2
   rw [line_step a 7 wLacks _ ⟨by decide, by decide⟩ (fun z hz => by
     simp only [List.mem_cons, List.not_mem_nil, or_false] at hz
     rcases hz with rfl | rfl
     · exact hw
     · exact hr) (by simp) keys_no.2.2.2.2.2.2.2.1]
   show { a with clauses := a.clauses ++ [(⟨1, findD a.kinds (kindNm g kind), 0, resN (resW out.toNat)⟩ : ClauseD)] } = _
   rw [hk, hf, ho, h2.2, e]
 · rename_i e
   rw [if_neg e] at h2
   split
   · rename_i e
     rw [if_pos e] at h2;simp only [Bool.and_eq_true, decide_eq_true_eq] at h2;obtain ⟨hf, hw⟩ := find_of h h2.1.1 h2.1.2
     rw [line_step a 8 wHolds _ ⟨by decide, by decide⟩ (fun z hz => by
       simp only [List.mem_cons, List.not_mem_nil, or_false] at hz
       rcases hz with rfl | rfl | rfl
       · exact hw
       · exact word_itoa _
       · exact hr) (by simp) keys_no.2.2.2.2.2.2.2.2.1]
     show { a with clauses := a.clauses ++ [(⟨2, findD a.kinds (kindNm g kind), numS (itoa n), resN (resW out.toNat)⟩ : ClauseD)] } = _
     rw [hk, hf, ho, num_back (by have := B.cells; omega), e]
   · rename_i e2
     rw [if_neg e2] at h2
     split at h2
     · rename_i e3
       simp only [Bool.and_eq_true, decide_eq_true_eq] at h2
       rw [line_step a 9 wFew _ ⟨by decide, by decide⟩ (fun z hz => by
         simp only [List.mem_cons, List.not_mem_nil, or_false] at hz
         rcases hz with rfl | rfl
         · exact word_itoa _
         · exact hr) (by simp) keys_no.2.2.2.2.2.2.2.2.2.1]
       show { a with clauses := a.clauses ++ [(⟨3, 0, numS (itoa n), resN (resW out.toNat)⟩ : ClauseD)] } = _
       rw [ho, num_back (by omega), h2.1, e3]
     · cases h2
theorem fold_clauses {g : GameD} (h : validG g = true) : ∀ (cs : List ClauseD) (a : GameD), (∀ c ∈ cs, c ∈ g.clauses) → a.kinds = g.kinds → (cs.map (clauseLn g)).foldl lineG a = { a with clauses := a.clauses ++ cs }
 | [], a, _, _ => by simp
 | c :: cs, a, hc, hk => by
   rw [List.map_cons, List.foldl_cons, clause_step h (hc c (by simp)) a hk, fold_clauses h cs { a with clauses := a.clauses ++ [c] } (fun x hx => hc x (by simp [hx])) hk]
   simp
def mustLn (g : GameD) : List (List UInt8) := if g.must = true then [Lib.join [wMust] [32]] else []
def linesG (g : GameD) : List (List UInt8) :=
 Lib.join [wBoard, itoa g.b.cells, itoa (g.b.next.length : Int)] [32] :: (g.b.next.map dirL ++ (Lib.join (wTurn :: g.b.turn.map itoa) [32] :: ((g.kinds.map kindLs).flatten ++ (Lib.join [wRights, itoa g.rights] [32] :: (mustLn g ++ (g.clauses.map (clauseLn g) ++ [Lib.join [wBlocked, resW g.blocked.toNat] [32], Lib.join [wEndless, resW g.endless.toNat] [32]]))))))
theorem fold_lines_g {g : GameD} (h : validG g = true) : (linesG g).foldl lineG zeroG = g := by
 have B := validG_bounds h
 have hK := kind_of h
 have hC := fun cs a => fold_clauses h cs a
 unfold linesG
 rw [List.foldl_cons, line_step zeroG 0 wBoard _ ⟨by decide, by decide⟩ (fun z hz => by
   simp only [List.mem_cons, List.not_mem_nil, or_false] at hz
   rcases hz with rfl | rfl <;> exact word_itoa _) (by simp) keys_no.1]
 rw [List.foldl_append, fold_dirs _ _ B.row]
 rw [List.foldl_cons, line_step _ 2 wTurn _ ⟨by decide, by decide⟩ (itoa_words _) (by rw [List.length_map]; have := B.turn; omega) keys_no.2.2.1]
 rw [List.foldl_append, fold_kinds _ _ (fun k hk => ⟨(hK k hk).1, (hK k hk).2.2⟩)]
 rw [List.foldl_cons, line_step _ 5 wRights _ ⟨by decide, by decide⟩ (fun z hz => by
   simp only [List.mem_cons, List.not_mem_nil, or_false] at hz; subst hz; exact word_itoa _) (by simp) keys_no.2.2.2.2.2.1]
 have hm : ∀ a : GameD, a.must = false → (mustLn g).foldl lineG a = { a with must := g.must } := fun a ha => by
   unfold mustLn
   cases hg : g.must with
   | true =>
     rw [if_pos rfl, List.foldl_cons, List.foldl_nil, line_step a 6 wMust [] ⟨by decide, by decide⟩ (by simp) (by simp) keys_no.2.2.2.2.2.2.1]
     rfl
   | false =>
     rw [if_neg (by simp)]
     cases a
     simp only at ha;subst ha
     rfl
 rw [List.foldl_append, hm _ rfl, List.foldl_append, hC g.clauses _ (fun c hc => hc) (by rfl)]
 rw [List.foldl_cons, line_step _ 10 wBlocked _ ⟨by decide, by decide⟩ (fun z hz => by
   simp only [List.mem_cons, List.not_mem_nil, or_false] at hz; subst hz; exact word_res B.blocked) (by simp) keys_no.2.2.2.2.2.2.2.2.2.2.1]
 rw [List.foldl_cons, List.foldl_nil, line_step _ 11 wEndless _ ⟨by decide, by decide⟩ (fun z hz => by
   simp only [List.mem_cons, List.not_mem_nil, or_false] at hz; subst hz; exact word_res B.endless) (by simp) keys_no.2.2.2.2.2.2.2.2.2.2.2]
 have n1 := num_back (n := g.b.cells) (by have := B.cells; omega)
 have n2 := nums_back g.b.turn (fun x hx => by have := B.tin x hx; omega)
 have n3 := num_back (n := g.rights) (by have := B.rights; omega)
 have n4 := res_back B.blocked
 have n5 := res_back B.endless
 simp only [stepN, headW, n1, n2, n3, n4, n5, zeroG, List.nil_append]
end Go.Proofs.YtbmcngoeinginaaGreatDoor
