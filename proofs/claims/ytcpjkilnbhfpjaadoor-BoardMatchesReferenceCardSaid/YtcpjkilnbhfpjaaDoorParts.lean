/-
  Parts of the package board, for valid boards.
-/
import Derived.Test.YtcpjkilnbhfpjaaDoorJoinW
import Derived.Test.YtcpjkilnbhfpjaaDoorValidW
namespace Go.Proofs.YtcpjkilnbhfpjaaDoor
open Go Go.RowKit Go.Shelf

attribute [local go_sem] Oper.semAt_some

def adjS (B : Brd) (n : Nat) (c : Int) : List Int := (joinTo B n n)[c.toNat]?.getD []
def markTo (c : Nat) (dist parts : List Int) : Nat → List Int
  | 0 => parts
  | k + 1 => if 0 ≤ dist[k]?.getD 0 then (markTo c dist parts k).set k (c : Int) else markTo c dist parts k
def partsTo (B : Brd) (n : Nat) : Nat → List Int
  | 0 => List.replicate n (-1)
  | c + 1 => if 0 ≤ (partsTo B n c)[c]?.getD 0 then partsTo B n c else markTo c (distS (adjS B n) n c) (partsTo B n c) n
def partsS (B : Brd) : List Int := partsTo B B.cells.toNat B.cells.toNat

theorem markTo_len (c : Nat) (dist parts : List Int) (k : Nat) : (markTo c dist parts k).length = parts.length := by
  induction k with
  | zero => rfl
  | succ k ih => unfold markTo; split <;> simp [ih]
theorem partsTo_len (B : Brd) (n k : Nat) : (partsTo B n k).length = n := by
  induction k with
  | zero => simp [partsTo]
  | succ k ih => unfold partsTo; split <;> simp [ih, markTo_len]

theorem bfsStep_len (c : Int) (st : List Int × List Int) (x : Int) : (bfsStep c st x).1.length = st.1.length := by
  unfold bfsStep; split <;> simp
theorem bfsFold_len (c : Int) (l : List Int) : ∀ st : List Int × List Int, (l.foldl (bfsStep c) st).1.length = st.1.length := by
  induction l with
  | nil => intro st; rfl
  | cons x l ih => intro st; rw [List.foldl_cons, ih, bfsStep_len]
theorem bfsGo_len (adj : Int → List Int) : ∀ (k : Nat) (far q : List Int), (bfsGo adj k far q).length = far.length
  | 0, _, _ => rfl
  | _ + 1, _, [] => rfl
  | k + 1, far, c :: q => by
    rw [bfsGo, bfsGo_len adj k, bfsFold_len]
theorem dist_len (adj : Int → List Int) (n fr : Nat) : (distS adj n fr).length = n := by
  unfold distS; rw [bfsGo_len]; simp

theorem ok_of_valid {B : Brd} (h : validS B = true) : B.Ok ∧ (∀ r ∈ B.next, r.length ≤ 1000) ∧ B.turn.length ≤ 1000 := by
  unfold validS turnS at h
  simp only [Bool.and_eq_true, decide_eq_true_eq, List.all_eq_true, List.mem_range] at h
  obtain ⟨⟨⟨⟨⟨h1, h2⟩, h3⟩, h4⟩, h5⟩, h6, h7⟩ := h
  have hr : ∀ d, d < B.next.length → rowOk B.cells (B.next[d]?.getD []) = true := fun d hd => by
    have : B.next[d]? = some B.next[d] := by simp [hd]
    rw [this]; exact h5 _ (List.getElem_mem hd)
  have hr1 : ∀ r ∈ B.next, (r.length : Int) = B.cells := fun r hr => by
    have := h5 r hr
    unfold rowOk at this
    simp only [Bool.and_eq_true, decide_eq_true_eq] at this
    exact this.1
  refine ⟨⟨h1, h2, h4, ?_, ?_, h6, ?_⟩, fun r hr => by have := hr1 r hr; omega, by omega⟩
  · intro d hd
    have := hr d hd
    unfold rowOk at this
    simp only [Bool.and_eq_true, decide_eq_true_eq] at this
    exact this.1
  · intro d c hd hc
    have := hr d hd
    unfold rowOk at this
    simp only [Bool.and_eq_true, decide_eq_true_eq, Bool.not_eq_true', List.any_eq_false] at this
    have hl : c < (B.next[d]?.getD []).length := by omega
    have hm := this.2 _ (List.getElem_mem hl)
    unfold outS at hm
    simp only [Bool.or_eq_true, decide_eq_true_eq] at hm
    rw [List.getElem?_eq_getElem hl, Option.getD_some]
    omega
  · intro d hd
    have := h7 d (by omega)
    unfold okTurn at this
    simp only [Bool.and_eq_true, decide_eq_true_eq] at this
    exact this.1
end Go.Proofs.YtcpjkilnbhfpjaaDoor
