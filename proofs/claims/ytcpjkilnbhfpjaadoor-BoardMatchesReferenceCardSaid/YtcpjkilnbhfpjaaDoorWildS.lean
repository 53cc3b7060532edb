/-
  The boards of the reference's Wild, as lists; they are valid.
-/
import Derived.Test.YtcpjkilnbhfpjaaDoorPartsW
namespace Go.Proofs.YtcpjkilnbhfpjaaDoor
open Go Go.RowKit

def wEnt (n v : Nat) : Int := if v % (n + 2) = n + 1 then -1 else ((v % (n + 2) : Nat) : Int) - 1
def wRow (n : Nat) (nx : Nat → Nat) (d : Nat) : List Int := (List.range n).map fun c => wEnt n (nx (8 * d + c))
def wSwap (m t : Nat) (d : Nat) (l : List Int) : List Int := if d + 1 < m ∧ (t >>> d) % 2 = 1 then (l.set d ((d : Int) + 1)).set (d + 1) (d : Int) else l
def wIds (m : Nat) : List Int := (List.range m).map fun d => ((d : Nat) : Int)
def wTurn (m t : Nat) : List Int := wSwap m t 2 (wSwap m t 0 (wIds m))
def wTurnTo (m t : Nat) : Nat → List Int
  | 0 => wIds m
  | k + 1 => wSwap m t (2 * k) (wTurnTo m t k)
theorem wSwap_len (m t d : Nat) (l : List Int) : (wSwap m t d l).length = l.length := by unfold wSwap; split <;> simp
theorem wTurnTo_len (m t k : Nat) : (wTurnTo m t k).length = m := by
  induction k with
  | zero => simp [wTurnTo, wIds]
  | succ k ih => rw [wTurnTo, wSwap_len, ih]
theorem wTurnTo_done (m t k : Nat) (hk : k ≤ 2) (h : m ≤ 2 * k + 1) : wTurnTo m t k = wTurn m t := by
  have hno : ∀ d l, m ≤ d + 1 → wSwap m t d l = l := fun d l hd => by unfold wSwap; rw [if_neg (by omega)]
  have : k = 0 ∨ k = 1 ∨ k = 2 := by omega
  rcases this with rfl | rfl | rfl
  · unfold wTurn; rw [hno 2 _ (by omega), hno 0 _ (by omega)]; rfl
  · unfold wTurn; rw [hno 2 _ (by omega)]; rfl
  · rfl
def wildS (n m t : Nat) (nx : Nat → Nat) : Brd := { cells := n, next := (List.range m).map (wRow n nx), turn := wTurn m t }

theorem wEnt_in (n v : Nat) : -1 ≤ wEnt n v ∧ wEnt n v < (n : Int) := by
  unfold wEnt
  have := Nat.mod_lt v (show 0 < n + 2 by omega)
  split <;> omega

theorem wTurn_ok (m t : Nat) (h1 : 1 ≤ m) (h4 : m ≤ 4) : turnS (wTurn m t) m = true := by
  have h : ∀ p q : Bool, ∀ m : Nat, 1 ≤ m → m ≤ 4 → turnS ((fun l => if 2 + 1 < m ∧ q = true then (l.set 2 ((2 : Int) + 1)).set (2 + 1) (2 : Int) else l) ((fun l : List Int => if 0 + 1 < m ∧ p = true then (l.set 0 ((0 : Int) + 1)).set (0 + 1) (0 : Int) else l) (wIds m))) m = true := by
    intro p q m h1 h4
    have : m = 1 ∨ m = 2 ∨ m = 3 ∨ m = 4 := by omega
    rcases this with rfl | rfl | rfl | rfl <;> cases p <;> cases q <;> decide
  have := h (decide ((t >>> 0) % 2 = 1)) (decide ((t >>> 2) % 2 = 1)) m h1 h4
  simp only [decide_eq_true_eq] at this
  exact this

theorem wild_valid (n m t : Nat) (nx : Nat → Nat) (hn1 : 1 ≤ n) (hn : n ≤ 8) (hm1 : 1 ≤ m) (hm : m ≤ 4) : validS (wildS n m t nx) = true := by
  have ht := wTurn_ok m t hm1 hm
  have hr : (wildS n m t nx).next.all (rowOk (wildS n m t nx).cells) = true := by
    rw [List.all_eq_true]
    intro r hr
    simp only [wildS, List.mem_map, List.mem_range] at hr
    obtain ⟨d, _, rfl⟩ := hr
    unfold rowOk
    simp only [Bool.and_eq_true, decide_eq_true_eq, Bool.not_eq_true', List.any_eq_false]
    refine ⟨by simp [wRow, wildS], fun x hx => ?_⟩
    simp only [wRow, List.mem_map] at hx
    obtain ⟨c, _, rfl⟩ := hx
    have := wEnt_in n (nx (8 * d + c))
    unfold outS
    simp only [Bool.or_eq_true, decide_eq_true_eq]
    simp only [wildS]
    omega
  unfold validS
  simp only [Bool.and_eq_true, decide_eq_true_eq]
  refine ⟨⟨⟨⟨⟨?_, ?_⟩, ?_⟩, ?_⟩, hr⟩, ?_⟩
  · simp only [wildS]; omega
  · simp only [wildS]; omega
  · simp only [wildS, List.length_map, List.length_range]; omega
  · simp only [wildS, List.length_map, List.length_range]; omega
  · simpa [wildS] using ht
end Go.Proofs.YtcpjkilnbhfpjaaDoor
