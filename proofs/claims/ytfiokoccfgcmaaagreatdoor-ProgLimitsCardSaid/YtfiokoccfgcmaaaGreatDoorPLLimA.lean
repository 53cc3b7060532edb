/-
  ProgLimits: programs that are put together; what is true of them.
-/
import Derived.Test.YtfiokoccfgcmaaaGreatDoorQSteps
import Derived.Test.YtfiokoccfgcmaaaGreatDoorPPrint
import Derived.Test.YtfiokoccfgcmaaaGreatDoorQValid
namespace Go.Proofs.YtfiokoccfgcmaaaGreatDoor
open Go Go.RowKit Go.Sort Go.Lib

def plainB (x : Int × Int) : Bool := !(x.1 == 6) && (!(x.1 == 7) && !(x.1 == 8))
def plainTo (S : List (Int × Int)) (q : Nat) : List (Int × Int) := (S.take q).filter plainB
theorem plainTo_succ (S : List (Int × Int)) (q : Nat) (h : q < S.length) : plainTo S (q + 1) = plainTo S q ++ if plainB (S[q]?.getD (0, 0)) = true then [S[q]?.getD (0, 0)] else [] := by
  unfold plainTo
  have e : S[q]?.toList = [S[q]?.getD (0, 0)] := by simp [h]
  rw [List.take_add_one, e, List.filter_append]
  congr 1
  by_cases hp : plainB (S[q]?.getD (0, 0)) = true <;> simp [hp]
theorem plainTo_len (S : List (Int × Int)) (q : Nat) : (plainTo S q).length ≤ S.length := Nat.le_trans (List.length_filter_le _ _) (by simp; omega)
theorem plain_len : (plainTo (stepsQ 80) (stepsQ 80).length).length = 27 := by decide +kernel
theorem stepsQ_ok {x : Int × Int} (h : x ∈ stepsQ 80) : okStep 8 6 4 x = true := (List.mem_filter.1 h).2
theorem plain_ok {S : List (Int × Int)} (hS : ∀ x ∈ S, okStep 8 6 4 x = true) {q : Nat} {x : Int × Int} (h : x ∈ plainTo S q) : okStep 8 6 4 x = true ∧ plainB x = true := by
  have := List.mem_filter.1 h
  exact ⟨hS x (List.mem_of_mem_take this.1), this.2⟩

/-- The program as it grows: the first part. -/
def partOne (L : List (Int × Int)) (z i : Nat) : List (Int × Int) := (List.range i).map fun j => L[(z + j) % L.length]?.getD (0, 0)
theorem partOne_succ (L : List (Int × Int)) (z i : Nat) : partOne L z (i + 1) = partOne L z i ++ [L[(z + i) % L.length]?.getD (0, 0)] := by unfold partOne; rw [List.range_succ, List.map_append]; rfl
def pushL (i : Nat) : List (Int × Int) := ((List.range i).map fun j : Nat => ((7 : Int), (j : Int))).reverse
theorem pushL_succ (i : Nat) : pushL (i + 1) = (7, (i : Int)) :: pushL i := by unfold pushL; rw [List.range_succ, List.map_append, List.reverse_append]; rfl
def becL (i : Nat) : List (Int × Int) := (List.range i).map fun j : Nat => ((8 : Int), 5 - (j : Int))
theorem becL_succ (i : Nat) : becL (i + 1) = becL i ++ [(8, 5 - (i : Int))] := by unfold becL; rw [List.range_succ, List.map_append]; rfl
def takL (i : Nat) : List (Int × Int) := List.replicate i ((6 : Int), (0 : Int))
theorem takL_succ (i : Nat) : takL (i + 1) = takL i ++ [(6, 0)] := by unfold takL; rw [List.replicate_succ']

theorem cnt_none {l : List (Int × Int)} {op : Int} (h : ∀ x ∈ l, ¬ x.1 = op) : cntS l op = 0 := by
  unfold cntS
  rw [List.filter_eq_nil_iff.2 (fun x hx => by simpa using h x hx)]
  rfl
theorem cnt_all {l : List (Int × Int)} {op : Int} (h : ∀ x ∈ l, x.1 = op) : cntS l op = l.length := by
  unfold cntS
  rw [List.filter_eq_self.2 (fun x hx => by simpa using h x hx)]
theorem cnt_app (l m : List (Int × Int)) (op : Int) : cntS (l ++ m) op = cntS l op + cntS m op := by
  unfold cntS
  rw [List.filter_append, List.length_append]; omega

/-- What the law asks of the whole program. -/
theorem limits_ok {A : List (Int × Int)} (hA : ∀ x ∈ A, okStep 8 6 4 x = true ∧ plainB x = true) (t u v : Nat) (hu : u ≤ 2) (hv : v ≤ 2) :
    validP (pushL u ++ (A ++ takL t) ++ becL v) 8 6 4 = (decide (1 ≤ u + (A.length + t) + v) && (decide (u + (A.length + t) + v ≤ 8) && (decide (t ≤ 2) && (decide (u ≤ 1) && decide (v ≤ 1))))) ∧ takesS (pushL u ++ (A ++ takL t) ++ becL v) = decide (0 < t) := by
  have hop : ∀ x ∈ A, ¬ x.1 = 6 ∧ ¬ x.1 = 7 ∧ ¬ x.1 = 8 := fun x hx => by
    have := (hA x hx).2
    unfold plainB at this
    simpa using this
  have hpu : ∀ x ∈ pushL u, x.1 = 7 ∧ 0 ≤ x.2 ∧ x.2 < 2 := fun x hx => by
    unfold pushL at hx
    simp only [List.mem_reverse, List.mem_map, List.mem_range] at hx
    obtain ⟨j, hj, rfl⟩ := hx
    exact ⟨rfl, by simp, by simp; omega⟩
  have hbe : ∀ x ∈ becL v, x.1 = 8 ∧ 3 < x.2 ∧ x.2 ≤ 5 := fun x hx => by
    unfold becL at hx
    simp only [List.mem_map, List.mem_range] at hx
    obtain ⟨j, hj, rfl⟩ := hx
    exact ⟨rfl, by simp; omega, by show 5 - (j : Int) ≤ 5; omega⟩
  have hta : ∀ x ∈ takL t, x = (6, 0) := fun x hx => List.eq_of_mem_replicate hx
  have lpu : (pushL u).length = u := by simp [pushL]
  have lbe : (becL v).length = v := by simp [becL]
  have lta : (takL t).length = t := by simp [takL]
  have c6 : cntS (pushL u ++ (A ++ takL t) ++ becL v) 6 = t := by
    rw [cnt_app, cnt_app, cnt_app, cnt_none (fun x hx => by rw [(hpu x hx).1]; omega), cnt_none (fun x hx => (hop x hx).1), cnt_all (fun x hx => by rw [hta x hx]), cnt_none (fun x hx => by rw [(hbe x hx).1]; omega), lta]; omega
  have c7 : cntS (pushL u ++ (A ++ takL t) ++ becL v) 7 = u := by
    rw [cnt_app, cnt_app, cnt_app, cnt_all (fun x hx => (hpu x hx).1), cnt_none (fun x hx => (hop x hx).2.1), cnt_none (fun x hx => by rw [hta x hx]; simp), cnt_none (fun x hx => by rw [(hbe x hx).1]; omega), lpu]; omega
  have c8 : cntS (pushL u ++ (A ++ takL t) ++ becL v) 8 = v := by
    rw [cnt_app, cnt_app, cnt_app, cnt_none (fun x hx => by rw [(hpu x hx).1]; omega), cnt_none (fun x hx => (hop x hx).2.2), cnt_none (fun x hx => by rw [hta x hx]; simp), cnt_all (fun x hx => (hbe x hx).1), lbe]; omega
  have hall : (pushL u ++ (A ++ takL t) ++ becL v).all (okStep 8 6 4) = true := by
    rw [List.all_eq_true]
    intro x hx
    rw [List.mem_append, List.mem_append, List.mem_append] at hx
    rcases hx with (h | h | h) | h
    · obtain ⟨a, b⟩ := x
      obtain ⟨h1, h2, h3⟩ := hpu _ h
      dsimp only at h1 h2 h3
      subst h1
      simp [okStep, opB, limS, nameS, namesL]
      omega
    · exact (hA x h).1
    · rw [hta x h]; decide
    · obtain ⟨a, b⟩ := x
      obtain ⟨h1, h2, h3⟩ := hbe _ h
      dsimp only at h1 h2 h3
      subst h1
      simp [okStep, opB, limS, nameS, namesL]
      omega
  have hlen : (pushL u ++ (A ++ takL t) ++ becL v).length = u + (A.length + t) + v := by simp only [List.length_append, lpu, lbe, lta]
  refine ⟨?_, ?_⟩
  · unfold validP
    rw [hall, c6, c7, c8, hlen, Bool.true_and]
    rw [Bool.eq_iff_iff]
    simp only [Bool.and_eq_true, decide_eq_true_eq]
    omega
  · rw [any_cnt, c6]
    rw [Bool.eq_iff_iff]
    simp
theorem word_pos {op : Nat} (h0 : 0 < op) (h1 : op < 11) : 1 ≤ (wordL[op]?.getD []).length := by
  have : op = 1 ∨ op = 2 ∨ op = 3 ∨ op = 4 ∨ op = 5 ∨ op = 6 ∨ op = 7 ∨ op = 8 ∨ op = 9 ∨ op = 10 := by omega
  rcases this with rfl | rfl | rfl | rfl | rfl | rfl | rfl | rfl | rfl | rfl <;> decide
theorem print_ne {l : List (Int × Int)} (h : validP l 8 6 4 = true) : printS l ≠ [] := by
  unfold printS
  rw [if_pos h]
  obtain ⟨h1, _⟩ := valid_len h
  obtain ⟨op, n, e, h0, h11, _⟩ := valid_step h (j := 0) (by omega)
  cases l with
  | nil => simp at h1
  | cons x r =>
    simp at e
    subst e
    intro hj
    have hw := word_pos h0 h11
    have : (writtenS ((op : Int), (n : Int))).length = 0 := by
      cases r with
      | nil => simp [join] at hj; simp [hj]
      | cons y r => simp [join] at hj
    unfold writtenS at this
    rw [Int.toNat_natCast] at this
    simp only [List.length_append] at this
    omega
end Go.Proofs.YtfiokoccfgcmaaaGreatDoor
