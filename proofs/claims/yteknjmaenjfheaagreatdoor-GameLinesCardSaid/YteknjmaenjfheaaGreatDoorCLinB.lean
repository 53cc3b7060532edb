/-
  The lines of a valid game's text.
-/
import Derived.Test.YteknjmaenjfheaaGreatDoorCLinA
namespace Go.Proofs.YteknjmaenjfheaaGreatDoor
open Go Go.RowKit Go.Lib

theorem lim_mono {d k r : Int} (hd : d ≤ 8) (hk : k ≤ 6) (hr : r ≤ 4) (m : Int) : limS d k r m ≤ limS 8 6 4 m := by
  unfold limS
  repeat' split
  all_goals omega
theorem valid_mono {p : List (Int × Int)} {d k r : Int} (hd : d ≤ 8) (hk : k ≤ 6) (hr : r ≤ 4) (h : validP p d k r = true) : validP p 8 6 4 = true := by
  unfold validP at h ⊢
  simp only [Bool.and_eq_true, decide_eq_true_eq] at h ⊢
  refine ⟨h.1, h.2.1, ?_, h.2.2.2⟩
  refine List.all_eq_true.2 fun x hx => ?_
  have h2 := List.all_eq_true.1 h.2.2.1 x hx
  unfold okStep at h2 ⊢
  simp only [Bool.and_eq_true, decide_eq_true_eq] at h2 ⊢
  exact ⟨h2.1, h2.2.1, Int.lt_of_lt_of_le h2.2.2 (lim_mono hd hk hr _)⟩
theorem prog_lined {p : List (Int × Int)} (h : validP p 8 6 4 = true) : Lined (progT p) 1 1 := by
  have hw := word_step h
  have hl := (valid_len h).1
  have e : progT p = lineT (wProg :: p.map writtenS) := by
    unfold progT lineT printS
    rw [if_pos h, join_spaced, join_spaced]
    cases hm : p.map writtenS with
    | nil =>
      have := congrArg List.length hm
      simp only [List.length_map, List.length_nil] at this
      omega
    | cons y ys =>
      have e2 : Go.Lib.join (y :: ys) [32] = y ++ spaced ys := join_spaced y ys
      first
        | (rw [e2]; simp [spaced])
        | (simp [spaced, e2])
  rw [e]
  exact Lined.one ⟨by decide, by decide⟩ hw
theorem kind_of {g : GameD} (h : validG g = true) : ∀ k ∈ g.kinds, nameB k.name = true ∧ k.progs.length ≤ 8 ∧ ∀ p ∈ k.progs, validP p 8 6 4 = true := by
  have B := validG_bounds h
  unfold validG at h
  simp only [Bool.and_eq_true] at h
  have hk := h.2.1
  unfold kindsB at hk
  simp only [Bool.and_eq_true] at hk
  intro k hkm
  obtain ⟨i, hi, rfl⟩ := List.mem_iff_getElem.1 hkm
  have h2 := List.all_eq_true.1 hk.2.2 i (List.mem_range.2 hi)
  unfold kindAt at h2
  rw [List.getElem?_eq_getElem hi, Option.getD_some] at h2
  unfold kindB progsB at h2
  simp only [Bool.and_eq_true, Bool.not_eq_true', decide_eq_true_eq] at h2
  refine ⟨h2.1, h2.2.2.1, fun p hp => ?_⟩
  have h3 := List.any_eq_false.1 h2.2.2.2 p hp
  unfold wrongP at h3
  simp only [Bool.not_eq_true, Bool.not_eq_false'] at h3
  exact valid_mono (by have := B.next; omega) (by have := B.kinds; omega) B.rights.2 h3
theorem kinds_lined {g : GameD} (h : validG g = true) : Lined (kindsT g.kinds) 1 54 := by
  have B := validG_bounds h
  have hK := kind_of h
  have h1 : ∀ k ∈ g.kinds, Lined (kindT k) 1 9 := fun k hk => by
    obtain ⟨hn, hl, hp⟩ := hK k hk
    have hw := word_name hn
    have a : Lined (kindL k) 1 1 := by
      unfold kindL
      split
      · refine Lined.one ⟨by decide, by decide⟩ fun z hz => ?_
        simp only [List.mem_cons, List.not_mem_nil, or_false] at hz
        rcases hz with rfl | rfl
        · exact hw
        · exact ⟨by decide, by decide⟩
      · exact two_words ⟨by decide, by decide⟩ hw
    have b := Lined.flat (f := progT) (a := 1) (b := 1) k.progs (fun p hq => prog_lined (hp p hq))
    exact (a.app b).weak (by omega) (by omega)
  have := Lined.flat (f := kindT) g.kinds h1
  unfold kindsT
  exact this.weak (by have := B.kinds; omega) (by have := B.kinds; omega)
theorem board_lined {g : GameD} (h : validG g = true) : Lined (boardT g.b) 2 10 := by
  have B := validG_bounds h
  have a : Lined (lineT [wBoard, itoa g.b.cells, itoa (g.b.next.length : Int)]) 1 1 := Lined.one ⟨by decide, by decide⟩ fun z hz => by
    simp only [List.mem_cons, List.not_mem_nil, or_false] at hz
    rcases hz with rfl | rfl <;> exact word_itoa _
  have hI : ∀ l : List Int, ∀ y ∈ l.map itoa, WordB y := fun l y hy => by
    obtain ⟨z, _, rfl⟩ := List.mem_map.1 hy
    exact word_itoa z
  have b := Lined.flat (f := dirT) (a := 1) (b := 1) g.b.next (fun r _ => Lined.one ⟨by decide, by decide⟩ (hI r))
  have c : Lined (lineT (wTurn :: g.b.turn.map itoa)) 1 1 := Lined.one ⟨by decide, by decide⟩ (hI g.b.turn)
  unfold boardT
  exact (a.app (b.app c)).weak (by omega) (by have := B.next; omega)
theorem clause_lined {g : GameD} (h : validG g = true) {c : ClauseD} (hc : c ∈ g.clauses) : Lined (clauseT g c) 1 1 := by
  have B := validG_bounds h
  have hK := kind_of h
  have hcb := B.clause c hc
  unfold clauseB rightB at hcb
  rw [Bool.and_eq_true] at hcb
  have hr := word_res (resB_in hcb.1)
  have hkn : 0 ≤ c.kind → c.kind < g.kinds.length → WordB (kindNm g c.kind) := fun h0 h1 => by
    unfold kindNm
    have hi : c.kind.toNat < g.kinds.length := by omega
    rw [List.getElem?_eq_getElem hi, Option.getD_some]
    exact word_name (hK _ (List.getElem_mem hi)).1
  have h2 := hcb.2
  unfold clauseT clauseL
  split
  · rename_i e
    rw [if_pos e] at h2
    simp only [Bool.and_eq_true, decide_eq_true_eq] at h2
    refine Lined.one ⟨by decide, by decide⟩ fun z hz => ?_
    simp only [List.mem_cons, List.not_mem_nil, or_false] at hz
    rcases hz with rfl | rfl
    · exact hkn h2.1.1 h2.1.2
    · exact hr
  · rename_i e
    rw [if_neg e] at h2
    split
    · rename_i e
      rw [if_pos e] at h2
      simp only [Bool.and_eq_true, decide_eq_true_eq] at h2
      refine Lined.one ⟨by decide, by decide⟩ fun z hz => ?_
      simp only [List.mem_cons, List.not_mem_nil, or_false] at hz
      rcases hz with rfl | rfl | rfl
      · exact hkn h2.1.1 h2.1.2
      · exact word_itoa _
      · exact hr
    · refine Lined.one ⟨by decide, by decide⟩ fun z hz => ?_
      simp only [List.mem_cons, List.not_mem_nil, or_false] at hz
      rcases hz with rfl | rfl
      · exact word_itoa _
      · exact hr
def lastB (g : GameD) : List UInt8 := wBlocked ++ 32 :: resW g.blocked.toNat
def lastE (g : GameD) : List UInt8 := wEndless ++ 32 :: resW g.endless.toNat
/-- The text of a valid game: lines, no fewer than 6, the last two of them known. -/
theorem written_lines {g : GameD} (h : validG g = true) : ∃ ls : List (List UInt8), writtenG g = flatL (ls ++ [lastB g, lastE g]) ∧ (∀ l ∈ ls ++ [lastB g, lastE g], LineB l) ∧ 4 ≤ ls.length ∧ ls.length ≤ 80 := by
  have B := validG_bounds h
  have hb := board_lined h
  have hk := kinds_lined h
  have hri : Lined (lineT [wRights, itoa g.rights]) 1 1 := two_words ⟨by decide, by decide⟩ (word_itoa _)
  have hmu : Lined (mustT g) 0 1 := by
    unfold mustT
    split
    · exact (Lined.one (xs := []) ⟨by decide, by decide⟩ (by simp)).weak (by omega) (by omega)
    · exact Lined.nil.weak (by omega) (by omega)
  have hcl := Lined.flat (f := clauseT g) (a := 1) (b := 1) g.clauses (fun c hc => clause_lined h hc)
  have hall := (hb.app (hk.app (hri.app (hmu.app hcl)))).weak (c := 4) (d := 80) (by omega) (by have := B.clauses; omega)
  obtain ⟨ls, e, h1, h2, h3⟩ := hall
  have e1 : lineT [wBlocked, resW g.blocked.toNat] = lastB g ++ [10] := by unfold lineT lastB; rw [join_spaced]; simp [spaced]
  have e2 : lineT [wEndless, resW g.endless.toNat] = lastE g ++ [10] := by unfold lineT lastE; rw [join_spaced]; simp [spaced]
  have l1 : LineB (lastB g) := by
    have := line_words (x := wBlocked) (xs := [resW g.blocked.toNat]) ⟨by decide, by decide⟩ (fun z hz => by simp only [List.mem_cons, List.not_mem_nil, or_false] at hz; subst hz; exact word_res B.blocked)
    rw [join_spaced] at this
    simpa [lastB, spaced] using this
  have l2 : LineB (lastE g) := by
    have := line_words (x := wEndless) (xs := [resW g.endless.toNat]) ⟨by decide, by decide⟩ (fun z hz => by simp only [List.mem_cons, List.not_mem_nil, or_false] at hz; subst hz; exact word_res B.endless)
    rw [join_spaced] at this
    simpa [lastE, spaced] using this
  refine ⟨ls, ?_, fun l hl => ?_, h2, h3⟩
  · unfold writtenG
    rw [e1, e2, flatL_append, ← e]
    simp [flatL]
  · rcases List.mem_append.1 hl with hl | hl
    · exact h1 l hl
    · simp only [List.mem_cons, List.not_mem_nil, or_false] at hl
      rcases hl with rfl | rfl
      · exact l1
      · exact l2
theorem okG_text {s : List UInt8} (h : okG s = true) : ∃ g, validG g = true ∧ writtenG g = s := by
  unfold okG at h
  rw [Bool.and_eq_true, decide_eq_true_eq] at h
  exact ⟨_, h.1, h.2⟩
/-- Without its last line, a game's text is no game's. -/
theorem no_last {ls : List (List UInt8)} {g : GameD} (hl : ∀ l ∈ ls ++ [lastB g, lastE g], LineB l) : okG (flatL (ls ++ [lastB g])) = false := by
  rw [Bool.eq_false_iff]
  intro h
  obtain ⟨g', hv, e⟩ := okG_text h
  obtain ⟨ls', e', h1, h2, h3⟩ := written_lines hv
  have hi := flatL_inj (fun l hm => (h1 l hm).1) (fun l hm => (hl l (by simp only [List.mem_append, List.mem_cons, List.not_mem_nil, or_false] at hm ⊢; rcases hm with hm | hm; exact .inl hm; exact .inr (.inl hm))).1) (e'.symm.trans e)
  have hh := congrArg (fun l => l.getLast?.map (·.head?)) hi
  simp [lastB, lastE, wBlocked, wEndless] at hh
/-- With a space at the end of a line, it is no game's. -/
theorem no_space {ls : List (List UInt8)} (hl : ∀ l ∈ ls, (10 : UInt8) ∉ l) {x : List UInt8} (hx : x ∈ ls) (h32 : x.getLast? = some 32) : okG (flatL ls) = false := by
  rw [Bool.eq_false_iff]
  intro h
  obtain ⟨g', hv, e⟩ := okG_text h
  obtain ⟨ls', e', h1, h2, h3⟩ := written_lines hv
  have hi := flatL_inj (fun l hm => (h1 l hm).1) hl (e'.symm.trans e)
  rw [← hi] at hx
  exact (h1 x hx).2 h32
end Go.Proofs.YteknjmaenjfheaaGreatDoor
