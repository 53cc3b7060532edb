/-
  slices.CompactFunc at positions.
-/
import Derived.Test.YtphhkfelpckilaaGreatDoorDSortF
namespace Go.Proofs.YtphhkfelpckilaaGreatDoor
open Go Go.RowKit Go.Lib Go.Sort

instance : Inhabited PosA := ⟨⟨⟨[], [], [], 0, 0⟩, none, none, none, 0, 0, 0⟩⟩
def ddA (d : Nat → PosA) : Nat → List PosA
  | 0 => []
  | 1 => [d 0]
  | m + 2 => if (d (m + 1)).p = (d m).p then ddA d (m + 1) else ddA d (m + 1) ++ [d (m + 1)]
theorem ddA_map (d : Nat → PosA) : ∀ m, (ddA d m).map (·.p) = ddupTo (fun j => (d j).p) m
  | 0 => rfl
  | 1 => rfl
  | m + 2 => by
    have ih := ddA_map d (m + 1)
    unfold ddA ddupTo
    split
    · exact ih
    · rw [List.map_append, ih]; rfl
theorem ddA_len (d : Nat → PosA) (m : Nat) : (ddA d m).length ≤ m := by
  have := ddupTo_len (fun j => (d j).p) m
  rw [← ddA_map] at this
  simpa using this
theorem ddA_mem (d : Nat → PosA) (x : PosA) : ∀ m, x ∈ ddA d m → ∃ j, j < m ∧ x = d j
  | 0, h => by simp [ddA] at h
  | 1, h => ⟨0, by omega, by simpa [ddA] using h⟩
  | m + 2, h => by
    unfold ddA at h
    split at h
    · obtain ⟨j, hj, e⟩ := ddA_mem d x (m + 1) h; exact ⟨j, by omega, e⟩
    · rcases List.mem_append.1 h with h | h
      · obtain ⟨j, hj, e⟩ := ddA_mem d x (m + 1) h; exact ⟨j, by omega, e⟩
      · exact ⟨m + 1, by omega, by simpa using h⟩
theorem ddA_all (d : Nat → PosA) : ∀ m, (∀ j, 1 ≤ j → j < m → (d j).p ≠ (d (j - 1)).p) → ddA d m = (List.range m).map d
  | 0, _ => rfl
  | 1, _ => rfl
  | m + 2, h => by
    have ih := ddA_all d (m + 1) (fun j h1 h2 => h j h1 (by omega))
    unfold ddA
    rw [if_neg (by have := h (m + 1) (by omega) (by omega); simpa using this), ih, List.range_succ (n := m + 1), List.map_append]
    rfl
theorem ddA_skip (d : Nat → PosA) (m : Nat) (h : (d (m + 1)).p = (d m).p) : ddA d (m + 2) = ddA d (m + 1) := by
  conv => lhs; unfold ddA
  rw [if_pos h]
theorem ddA_keep (d : Nat → PosA) (m : Nat) (h : ¬ (d (m + 1)).p = (d m).p) : ddA d (m + 2) = ddA d (m + 1) ++ [d (m + 1)] := by
  conv => lhs; unfold ddA
  rw [if_neg h]
def nth (L : List PosA) (j : Nat) : PosA := L[j]?.getD default
theorem nth_get {L : List PosA} {j : Nat} (h : j < L.length) : nth L j = L[j] := by unfold nth; simp [h]
theorem range_nth (L : List PosA) : (List.range L.length).map (nth L) = L := by
  apply List.ext_getElem
  · simp
  · intro i h1 h2; simp [nth_get h2]
/-- Without neighbours that are equal, what is left is the list. -/
theorem ddA_none {L : List PosA} (h : ∀ j, 1 ≤ j → j < L.length → (nth L j).p ≠ (nth L (j - 1)).p) : ddA (nth L) L.length = L := by rw [ddA_all _ _ h, range_nth]
/-- The cells when the first m elements have been looked at. -/
def midA (L : List PosA) (m : Nat) : List PosA := ddA (nth L) m ++ L.drop (ddA (nth L) m).length
theorem midA_len (L : List PosA) {m : Nat} (hm : m ≤ L.length) : (midA L m).length = L.length := by
  have := ddA_len (nth L) m
  unfold midA
  simp; omega
theorem midA_hi (L : List PosA) {m j : Nat} (hm : (ddA (nth L) m).length ≤ j) (hj : j < L.length) : (midA L m)[j]? = some (nth L j) := by
  rw [nth_get hj]
  unfold midA
  rw [List.getElem?_append_right hm, List.getElem?_drop, Nat.add_sub_cancel' hm]
  exact List.getElem?_eq_getElem hj
theorem midA_take (L : List PosA) (m : Nat) : (midA L m).take (ddA (nth L) m).length = ddA (nth L) m := by
  unfold midA
  rw [List.take_left']
  rfl
theorem midA_set (L : List PosA) (m : Nat) (hl : (ddA (nth L) (m + 1)).length < L.length) (h : ¬ (nth L (m + 1)).p = (nth L m).p) : midA L (m + 2) = (midA L (m + 1)).set (ddA (nth L) (m + 1)).length (nth L (m + 1)) := by
  unfold midA
  rw [ddA_keep _ _ h, List.set_append_right _ _ (Nat.le_refl _), Nat.sub_self, List.append_assoc]
  congr 1
  rw [List.drop_eq_getElem_cons hl, List.length_append]
  rfl
theorem midA_start {L : List PosA} {m : Nat} (hm : m + 1 < L.length) (h : ∀ j, 1 ≤ j → j < m + 1 → (nth L j).p ≠ (nth L (j - 1)).p) (he : (nth L (m + 1)).p = (nth L m).p) : midA L (m + 2) = L ∧ (ddA (nth L) (m + 2)).length = m + 1 := by
  have e1 : ddA (nth L) (m + 2) = L.take (m + 1) := by
    rw [ddA_skip _ _ he, ddA_all _ _ h]
    apply List.ext_getElem
    · simp; omega
    · intro i h1 h2
      have : i < L.length := by simp at h2; omega
      simp [nth_get this]
  have e2 : (L.take (m + 1)).length = m + 1 := by simp; omega
  refine ⟨?_, by rw [e1, e2]⟩
  unfold midA
  rw [e1, e2, List.take_append_drop]
end Go.Proofs.YtphhkfelpckilaaGreatDoor
