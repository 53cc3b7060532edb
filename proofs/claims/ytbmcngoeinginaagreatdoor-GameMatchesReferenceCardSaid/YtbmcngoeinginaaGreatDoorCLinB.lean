/-
 The lines of a valid game's text.
-/
import Derived.Test.YtbmcngoeinginaaGreatDoorCLinA
namespace Go.Proofs.YtbmcngoeinginaaGreatDoor
open Go Go.RowKit Go.Lib
theorem lim_mono {d k r : Int} (hd : d ≤ 8) (hk : k ≤ 6) (hr : r ≤ 4) (m : Int) : limS d k r m ≤ limS 8 6 4 m := by
 unfold limS
 repeat' split
 all_goals omega
theorem valid_mono {p : List (Int × Int)} {d k r : Int} (hd : d ≤ 8) (hk : k ≤ 6) (hr : r ≤ 4) (h : validP p d k r = true) : validP p 8 6 4 = true := by
 unfold validP at h ⊢
 simp only [Bool.and_eq_true, decide_eq_true_eq] at h ⊢
 refine ⟨h.1, h.2.1, ?_, h.2.2.2⟩
 refine List.all_eq_true.2 fun x hx => ?_
 have h2 := List.all_eq_true.1 h.2.2.1 x hx
 unfold okStep at h2 ⊢
 simp only [Bool.and_eq_true, decide_eq_true_eq] at h2 ⊢
 exact ⟨h2.1, h2.2.1, Int.lt_of_lt_of_le h2.2.2 (lim_mono hd hk hr _)⟩
theorem kind_of {g : GameD} (h : validG g = true) : ∀ k ∈ g.kinds, nameB k.name = true ∧ k.progs.length ≤ 8 ∧ ∀ p ∈ k.progs, validP p 8 6 4 = true := by
 have B := validG_bounds h
 unfold validG at h
 simp only [Bool.and_eq_true] at h
 have hk := h.2.1
 unfold kindsB at hk
 simp only [Bool.and_eq_true] at hk
 intro k hkm
 obtain ⟨i, hi, rfl⟩ := List.mem_iff_getElem.1 hkm
 have h2 := List.all_eq_true.1 hk.2.2 i (List.mem_range.2 hi)
 unfold kindAt at h2
 rw [List.getElem?_eq_getElem hi, Option.getD_some] at h2
 unfold kindB progsB at h2
 simp only [Bool.and_eq_true, Bool.not_eq_true', decide_eq_true_eq] at h2
 refine ⟨h2.1, h2.2.2.1, fun p hp => ?_⟩
 have h3 := List.any_eq_false.1 h2.2.2.2 p hp
 unfold wrongP at h3
 simp only [Bool.not_eq_true, Bool.not_eq_false'] at h3
 exact valid_mono (by have := B.next; omega) (by have := B.kinds; omega) B.rights.2 h3
theorem clause_lined {g : GameD} (h : validG g = true) {c : ClauseD} (hc : c ∈ g.clauses) : Lined (clauseT g c) 1 1 := by
 have B := validG_bounds h
 have hK := kind_of h
 have hcb := B.clause c hc
 unfold clauseB rightB at hcb
 rw [Bool.and_eq_true] at hcb
 have hr := word_res (resB_in hcb.1)
 have hkn : 0 ≤ c.kind → c.kind < g.kinds.length → WordB (kindNm g c.kind) := fun h0 h1 => by
   unfold kindNm
   have hi : c.kind.toNat < g.kinds.length := by omega
   rw [List.getElem?_eq_getElem hi, Option.getD_some];exact word_name (hK _ (List.getElem_mem hi)).1
 have h2 := hcb.2
 unfold clauseT clauseL
 split
 · rename_i e
   rw [if_pos e] at h2;simp only [Bool.and_eq_true, decide_eq_true_eq] at h2
   refine Lined.one ⟨by decide, by decide⟩ fun z hz => ?_
   simp only [List.mem_cons, List.not_mem_nil, or_false] at hz
   rcases hz with rfl | rfl
   · exact hkn h2.1.1 h2.1.2
   · exact hr
 · rename_i e
   rw [if_neg e] at h2
   split
   · rename_i e
     rw [if_pos e] at h2;simp only [Bool.and_eq_true, decide_eq_true_eq] at h2
     refine Lined.one ⟨by decide, by decide⟩ fun z hz => ?_
     simp only [List.mem_cons, List.not_mem_nil, or_false] at hz
     rcases hz with rfl | rfl | rfl
     · exact hkn h2.1.1 h2.1.2
     · exact word_itoa _
     · exact hr
   · refine Lined.one ⟨by decide, by decide⟩ fun z hz => ?_
     simp only [List.mem_cons, List.not_mem_nil, or_false] at hz
     rcases hz with rfl | rfl
     · exact word_itoa _
     · exact hr
end Go.Proofs.YtbmcngoeinginaaGreatDoor
