/-
  The library's functions on slices of the call's own: sort, compact.
-/
import Derived.Test.YtidgdfjnjgonoaaGreatDoorLib0
import Derived.Test.YtidgdfjnjgonoaaGreatDoorShelf
namespace Go.Proofs.YtidgdfjnjgonoaaGreatDoor
open Go Go.RowKit Go.Shelf Go.Sort Go.Lib

theorem OwnInts.holds {n : Nat} {W : World} {g cap : Nat} {l : List Int} (h : OwnInts n W (.slice (some ⟨g, 0, none⟩) l.length cap) l) : Holds (Value.int .i64) W g 0 l.toArray := by
  intro j hj
  have hj' : j < l.length := by simpa using hj
  refine ⟨?_, World.ownsRow.frozenAt h _⟩
  rw [Nat.zero_add, World.ownsRow.cellAt h j (by omega)]
  simp [hj']

theorem sort_own (n : Nat) (v : Value) (l : List Int) (w : World) (h : OwnInts n w v l) (hl : l.length < 4611686018427387904) :
    Calls Tryz.prog 35 #[v] w fun e w' => e = .returned (.tuple #[]) ∧ OwnInts n w' v (l.mergeSort fun x y => decide (x ≤ y)) ∧ w.grownBy w' v.ownBlock := by
  have hlen : (l.mergeSort fun x y => decide (x ≤ y)).length = l.length := by simp
  rcases h.form with ⟨rfl, rfl⟩ | ⟨g, cap, rfl, hg, hlt⟩
  · refine (Tryz.slices_Sort_int_none none 0 w).mono ?_
    rintro e w' ⟨he, rfl⟩
    exact ⟨he, by simpa [OwnInts] using h, ⟨rfl, rfl, rfl, Nat.le_refl _, fun _ _ _ => rfl⟩⟩
  · refine (Tryz.slices_Sort_int g 0 cap l w h.holds hlt hl).mono ?_
    rintro e w' ⟨he, m, os, rfl⟩
    refine ⟨he, ?_, grownBy_sortedI _⟩
    rcases h.2 with ⟨h1, _⟩ | ⟨g', cap', cur, hv, hg', hc, hn, hm, hs, _⟩
    · cases h1
    · cases hv
      have := ownsRow_sortedI (w := w) (base := n) (g := g) (cap := cap) (n := m) (e := 3) (os := os) (cur := cur) (ss := l) (ts := l.mergeSort fun x y => decide (x ≤ y)) hlen hg hc hn hm hs
      unfold OwnInts
      rw [hlen]; exact this

theorem eql_int3 : EqlAt Tryz.prog 3 (Value.int .i64) (fun x y => decide (x = y)) := EqlAt.intD _ _ _
theorem neq_int3 : NeqAt Tryz.prog 3 (Value.int .i64) (fun x y => decide (x = y)) := NeqAt.intD _ _ _

set_option maxHeartbeats 400000 in
theorem compact_nil (w : World) : Calls Tryz.prog 36 #[.slice none 0 0] w fun e w' => e = .returned (.slice none 0 0) ∧ w = w' := by
  go_enter Tryz.func36, Tryz.ntmps36
  go_wp2
  go_ret
  exact ⟨rfl, rfl⟩

theorem compact_own (n : Nat) (v : Value) (l : List Int) (w : World) (h : OwnInts n w v l) (hl : l.length ≤ 9223372036854775807) :
    Calls Tryz.prog 36 #[v] w fun e w' => ∃ v', e = .returned v' ∧ OwnInts n w' v' (compact l) ∧ w.grownBy w' v.ownBlock := by
  rcases h.form with ⟨rfl, rfl⟩ | ⟨g, cap, rfl, hg, hlt⟩
  · refine (compact_nil w).mono ?_
    rintro e w' ⟨he, rfl⟩
    exact ⟨_, he, by simpa [OwnInts, compact, compactUpTo] using h, ⟨rfl, rfl, rfl, Nat.le_refl _, fun _ _ _ => rfl⟩⟩
  · rcases h.2 with ⟨h1, _⟩ | ⟨g', cap', cur, hv, hg', hc, hn, hm, hs, _⟩
    · cases h1
    cases hv
    have hcl : (compactUpTo l.toArray l.toArray.size).length ≤ l.toArray.size := by
      unfold compactUpTo; rw [List.length_map]; exact Nat.le_trans (List.length_filter_le _ _) (by simp)
    refine (Tryz.slices_Compact (Value.int .i64) (fun _ => rfl) eql_int3 neq_int3 0 Tryz.zeroValue3 g 0 cap l.toArray w h.holds (by simpa using hl) (by simpa using hn)).mono ?_
    rintro e w' ⟨he, q, rfl⟩
    refine ⟨_, he, ?_, ?_⟩
    · have hh := heap_sortedI (n := q) (os := #[]) (compactUpTo l.toArray l.toArray.size ++ List.replicate (l.toArray.size - (compactUpTo l.toArray l.toArray.size).length) (0 : Int)).toArray hc
      rw [grow_empty] at hh
      refine ⟨by simp, .inr ⟨g, cap, _, rfl, hg, hh, ?_, hm, by simp [putCells, hs], ?_⟩⟩
      · simp [compact] at hcl ⊢; omega
      · have hts : (compactUpTo l.toArray l.toArray.size ++ List.replicate (l.toArray.size - (compactUpTo l.toArray l.toArray.size).length) (0 : Int)).length = l.length := by
          rw [List.length_append, List.length_replicate]; simp at hcl ⊢; omega
        have e := take_putCellsI cur (compactUpTo l.toArray l.toArray.size ++ List.replicate (l.toArray.size - (compactUpTo l.toArray l.toArray.size).length) (0 : Int)) (by rw [hts, hs]; omega)
        have hk : (compact l).length = (compactUpTo l.toArray l.toArray.size).length := by simp [compact]
        have e2 : ∀ (L : List Value) (k m : Nat), k ≤ m → L.take k = (L.take m).take k := fun L k m hkm => by rw [List.take_take, Nat.min_eq_left hkm]
        have hkm : (compact l).length ≤ (compactUpTo l.toArray l.toArray.size ++ List.replicate (l.toArray.size - (compactUpTo l.toArray l.toArray.size).length) (0 : Int)).length := by rw [hk, List.length_append]; exact Nat.le_add_right _ _
        rw [Nat.mul_one, e2 _ (compact l).length _ hkm, e, List.map_append, hk, List.take_append_of_le_length (by simp), List.take_of_length_le (by simp)]
        simp [compact]
    · have := grownBy_sortedI (w := w) (g := g) (n := q) (os := #[]) (compactUpTo l.toArray l.toArray.size ++ List.replicate (l.toArray.size - (compactUpTo l.toArray l.toArray.size).length) (0 : Int)).toArray
      rwa [grow_empty] at this
end Go.Proofs.YtidgdfjnjgonoaaGreatDoor
