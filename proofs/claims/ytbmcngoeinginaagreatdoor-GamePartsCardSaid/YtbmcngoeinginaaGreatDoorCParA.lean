/-
  What validity says of a game's parts; a valid game on another board.
-/
import Derived.Test.YtbmcngoeinginaaGreatDoorCVal
namespace Go.Proofs.YtbmcngoeinginaaGreatDoor
open Go Go.RowKit

theorem parts_of {g : GameD} (h : validG g = true) : validS g.b = true ∧ ∀ k ∈ g.kinds, ∀ p ∈ k.progs, validP p (g.b.next.length : Int) (g.kinds.length : Int) g.rights = true := by
  unfold validG at h
  simp only [Bool.and_eq_true] at h
  refine ⟨h.1, ?_⟩
  have hk := h.2.1
  unfold kindsB at hk
  simp only [Bool.and_eq_true] at hk
  intro k hkm p hp
  obtain ⟨i, hi, rfl⟩ := List.mem_iff_getElem.1 hkm
  have h2 := List.all_eq_true.1 hk.2.2 i (List.mem_range.2 hi)
  unfold kindAt at h2
  rw [List.getElem?_eq_getElem hi, Option.getD_some] at h2
  unfold kindB progsB at h2
  simp only [Bool.and_eq_true, Bool.not_eq_true'] at h2
  have h3 := List.any_eq_false.1 h2.2.2.2 p hp
  unfold wrongP at h3
  simpa using h3

def onB (g : GameD) (B : Brd) : GameD := { g with b := B }
def pOk (g : GameD) (B : Brd) (p : List (Int × Int)) : Bool := validP p (B.next.length : Int) (g.kinds.length : Int) g.rights
def kOk (g : GameD) (B : Brd) (k : KindD) : Bool := k.progs.all (pOk g B)
def cOk (B : Brd) (c : ClauseD) : Bool := (c.cond != 2) || decide (c.n < B.cells)
theorem on_kinds {g : GameD} (h : kindsB g = true) (B : Brd) : kindsB (onB g B) = g.kinds.all (kOk g B) := by
  unfold kindsB at h ⊢
  simp only [Bool.and_eq_true] at h
  show (decide (1 ≤ g.kinds.length) && (decide (g.kinds.length ≤ 6) && (List.range g.kinds.length).all (kindAt (onB g B)))) = _
  rw [h.1, h.2.1, Bool.true_and, Bool.true_and]
  have key : ∀ i (hi : i < g.kinds.length), kindAt (onB g B) i = kOk g B (g.kinds[i]) := by
    intro i hi
    have h2 := List.all_eq_true.1 h.2.2 i (List.mem_range.2 hi)
    unfold kindAt at h2 ⊢
    show kindB (onB g B) i (g.kinds[i]?.getD _) = _
    rw [List.getElem?_eq_getElem hi, Option.getD_some] at h2 ⊢
    unfold kindB progsB at h2 ⊢
    simp only [Bool.and_eq_true] at h2
    show (nameB (g.kinds[i]).name && (decide (findD g.kinds (g.kinds[i]).name = (i : Int)) && (decide ((g.kinds[i]).progs.length ≤ 8) && !(g.kinds[i]).progs.any (wrongP (onB g B))))) = _
    rw [h2.1, h2.2.1, h2.2.2.1]
    simp only [Bool.true_and]
    unfold kOk
    rw [List.not_any_eq_all_not]
    congr 1
    funext p
    simp [wrongP, pOk, onB]
  rw [Bool.eq_iff_iff, List.all_eq_true, List.all_eq_true]
  constructor
  · intro hh k hkm
    obtain ⟨i, hi, rfl⟩ := List.mem_iff_getElem.1 hkm
    rw [← key i hi]
    exact hh i (List.mem_range.2 hi)
  · intro hh i hi
    have hi := List.mem_range.1 hi
    rw [key i hi]
    exact hh _ (List.getElem_mem hi)
theorem right_on {n m : Int} {kl : Nat} {cond k x out : Int} (h : rightB n kl cond k x out = true) : rightB m kl cond k x out = ((cond != 2) || decide (x < m)) := by
  unfold rightB at h ⊢
  simp only [Bool.and_eq_true] at h
  rw [h.1, Bool.true_and]
  have h2 := h.2
  by_cases e1 : cond = 1
  · subst e1; simpa using h2
  · by_cases e2 : cond = 2
    · subst e2
      rw [if_neg (by decide), if_pos rfl] at h2 ⊢
      simp only [Bool.and_eq_true] at h2
      rw [h2.1.1, h2.1.2, h2.2.1]
      simp
    · rw [if_neg e1, if_neg e2] at h2 ⊢
      rw [h2]
      simp [e2]
theorem on_clauses {g : GameD} (h : clausesB g = true) (B : Brd) : clausesB (onB g B) = g.clauses.all (cOk B) := by
  unfold clausesB at h ⊢
  simp only [Bool.and_eq_true, Bool.not_eq_true'] at h
  show (decide (g.clauses.length ≤ 6) && !g.clauses.any (wrongC (onB g B))) = _
  rw [h.1, Bool.true_and, List.not_any_eq_all_not]
  have key : ∀ c ∈ g.clauses, (!wrongC (onB g B) c) = cOk B c := by
    intro c hcm
    have h3 := List.any_eq_false.1 h.2 c hcm
    unfold wrongC clauseB at h3 ⊢
    rw [Bool.not_not]
    unfold cOk
    exact right_on (n := g.b.cells) (kl := g.kinds.length) (by simpa using h3)
  rw [Bool.eq_iff_iff, List.all_eq_true, List.all_eq_true]
  exact ⟨fun hh c hc => by rw [← key c hc]; exact hh c hc, fun hh c hc => by rw [key c hc]; exact hh c hc⟩
theorem on_valid {g : GameD} (h : validG g = true) (B : Brd) : validG (onB g B) = (validS B && (g.kinds.all (kOk g B) && g.clauses.all (cOk B))) := by
  unfold validG at h
  simp only [Bool.and_eq_true] at h
  obtain ⟨_, hk, hr0, hr1, hc, hbl, hen⟩ := h
  unfold validG
  rw [on_kinds hk B, on_clauses hc B]
  show (validS B && (g.kinds.all (kOk g B) && (decide (0 ≤ g.rights) && (decide (g.rights ≤ 4) && (g.clauses.all (cOk B) && (resB g.blocked && resB g.endless)))))) = _
  rw [hr0, hr1, hbl, hen]
  simp
end Go.Proofs.YtbmcngoeinginaaGreatDoor
