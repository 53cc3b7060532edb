/-
  distances of the package board: what it computes, as lists; the loop's state in memory.
-/
import Derived.Test.YtcpjkilnbhfpjaaDoorSteps
import Derived.Test.YtcpjkilnbhfpjaaDoorQueue
import Derived.Test.YtcpjkilnbhfpjaaDoorRound
import Derived.Test.YtcpjkilnbhfpjaaDoorRepeat
import Derived.Maps.OwnIn
namespace Go.Proofs.YtcpjkilnbhfpjaaDoor
open Go Go.RowKit Go.Shelf

/-- One cell to which a step leads from c: it gets its distance, and goes to the queue's end, if it has none. -/
def bfsStep (c : Int) (st : List Int × List Int) (to : Int) : List Int × List Int :=
  if st.1[to.toNat]?.getD 0 < 0 then (st.1.set to.toNat (st.1[c.toNat]?.getD 0 + 1), st.2 ++ [to]) else st
def bfsGo (adj : Int → List Int) : Nat → List Int → List Int → List Int
  | 0, far, _ => far
  | _ + 1, far, [] => far
  | k + 1, far, c :: q => bfsGo adj k ((adj c).foldl (bfsStep c) (far, q)).1 ((adj c).foldl (bfsStep c) (far, q)).2
def distS (adj : Int → List Int) (cells fr : Nat) : List Int := bfsGo adj (cells + 1) ((List.replicate cells (-1)).set fr 0) [(fr : Int)]

/-- How many cells have no distance. -/
def unset (far : List Int) : Nat := far.countP fun v => decide (v < 0)

/-- What holds of the distances all the time. -/
structure FarOk (n : Nat) (far q : List Int) : Prop where
  len : far.length = n
  qin : ∀ x ∈ q, 0 ≤ x ∧ x < n
  qset : ∀ x ∈ q, 0 ≤ far[x.toNat]?.getD 0
  big : ∀ v ∈ far, -1 ≤ v ∧ v + unset far + 1 ≤ n

theorem unset_set {far : List Int} {i : Nat} {v : Int} (hi : i < far.length) (h : far[i]?.getD 0 < 0) (hv : 0 ≤ v) : unset (far.set i v) + 1 = unset far := by
  unfold unset
  have h' : far[i] < 0 := by simpa [hi] using h
  rw [List.countP_set hi]
  have hpos : 0 < far.countP fun v => decide (v < 0) := List.countP_pos_iff.2 ⟨far[i], List.getElem_mem hi, by simpa using h'⟩
  have hnv : ¬ v < 0 := by omega
  simp [h', hnv]
  omega

theorem unset_le (far : List Int) : unset far ≤ far.length := List.countP_le_length

theorem bfsStep_ok {n : Nat} {far q : List Int} (h : FarOk n far q) {c to : Int} (hc : 0 ≤ c ∧ c < n) (hcs : 0 ≤ far[c.toNat]?.getD 0) (ht : 0 ≤ to ∧ to < n) :
    FarOk n (bfsStep c (far, q) to).1 (bfsStep c (far, q) to).2 ∧ 0 ≤ (bfsStep c (far, q) to).1[c.toNat]?.getD 0 ∧ unset (bfsStep c (far, q) to).1 + (bfsStep c (far, q) to).2.length = unset far + q.length := by
  unfold bfsStep
  have hl := h.len
  have hti : to.toNat < far.length := by omega
  have hci : c.toNat < far.length := by omega
  by_cases hlt : far[to.toNat]?.getD 0 < 0
  · simp only [hlt, if_true]
    have hne : to.toNat ≠ c.toNat := fun e => by rw [e] at hlt; omega
    have hun := unset_set (v := far[c.toNat]?.getD 0 + 1) hti hlt (by omega)
    have hbc := h.big (far[c.toNat]) (List.getElem_mem hci)
    have hcv : far[c.toNat]?.getD 0 = far[c.toNat] := by simp [hci]
    refine ⟨⟨by simp [hl], ?_, ?_, ?_⟩, ?_, ?_⟩
    · intro x hx
      rcases List.mem_append.1 hx with hx | hx
      · exact h.qin x hx
      · rw [List.mem_singleton.1 hx]; exact ht
    · intro x hx
      by_cases e : x.toNat = to.toNat
      · rw [e, List.getElem?_set_self hti]; simp; omega
      · rw [List.getElem?_set_ne (by omega)]
        rcases List.mem_append.1 hx with hx | hx
        · exact h.qset x hx
        · exact absurd (by rw [List.mem_singleton.1 hx]) e
    · intro v hv
      rcases List.mem_or_eq_of_mem_set hv with hv | rfl
      · have := h.big v hv; omega
      · omega
    · rw [List.getElem?_set_ne hne]; exact hcs
    · simp; omega
  · simp only [hlt, if_false]
    exact ⟨h, hcs, trivial⟩

theorem bfsFold_ok {n : Nat} {c : Int} (hc : 0 ≤ c ∧ c < n) : ∀ (l : List Int) (far q : List Int), (∀ x ∈ l, 0 ≤ x ∧ x < n) → FarOk n far q → 0 ≤ far[c.toNat]?.getD 0 →
    FarOk n (l.foldl (bfsStep c) (far, q)).1 (l.foldl (bfsStep c) (far, q)).2 ∧ 0 ≤ (l.foldl (bfsStep c) (far, q)).1[c.toNat]?.getD 0 ∧ unset (l.foldl (bfsStep c) (far, q)).1 + (l.foldl (bfsStep c) (far, q)).2.length = unset far + q.length
  | [], far, q, _, h, hs => ⟨h, hs, rfl⟩
  | x :: l, far, q, hl, h, hs => by
    obtain ⟨h1, h2, h3⟩ := bfsStep_ok h hc hs (hl x (by simp))
    obtain ⟨h4, h5, h6⟩ := bfsFold_ok hc l (bfsStep c (far, q) x).1 (bfsStep c (far, q) x).2 (fun y hy => hl y (by simp [hy])) h1 h2
    simp only [List.foldl_cons]
    exact ⟨h4, h5, by rw [← h3]; exact h6⟩

theorem farOk_start (n fr : Nat) (h : fr < n) : FarOk n ((List.replicate n (-1)).set fr 0) [(fr : Int)] ∧ unset ((List.replicate n (-1 : Int)).set fr 0) + 1 = n := by
  have hu : unset (List.replicate n (-1 : Int)) = n := by simp [unset, List.countP_replicate]
  have h1 := unset_set (far := List.replicate n (-1)) (i := fr) (v := 0) (by simpa using h) (by simp [h]) (by omega)
  rw [hu] at h1
  refine ⟨⟨by simp, by simp; omega, by simp [h], ?_⟩, h1⟩
  intro v hv
  rcases List.mem_or_eq_of_mem_set hv with hv | rfl
  · rw [List.eq_of_mem_replicate hv]; omega
  · omega
end Go.Proofs.YtcpjkilnbhfpjaaDoor
