/-
  Lists of eight numbers: made, and written out.
-/
import Derived.Test.YtidgdfjnjgonoaaGreatDoorPush
import Derived.OwnWalk
import Derived.Great.BuildSlice
import Derived.Laws.OwnMore
namespace Go.Proofs.YtidgdfjnjgonoaaGreatDoor
open Go Go.RowKit Go.Sort

def idL : List Int := [0, 1, 2, 3, 4, 5, 6, 7]
theorem info_int : (Tryz.prog.info? 3).map (fun i => (i.zero, i.size, i.bytes)) = some (some (.int .i64 0), 1, 8) := by kernel_rfl
theorem make8_run (w : World) : (Instr.makeSlice 33 (.int .i64 8) (.int .i64 8)).run Tryz.prog w = .ok (.slice (some ⟨w.heap.size, 0, none⟩) 8 8) (w.alloc (.cells #[.int .i64 0, .int .i64 0, .int .i64 0, .int .i64 0, .int .i64 0, .int .i64 0, .int .i64 0, .int .i64 0] 3)) := by
  obtain ⟨i0, hi, hz0, hz1, hz2⟩ := info_parts info_int
  have hr := run_make (P := Tryz.prog) w 33 3 i0 (.int .i64 0) Tryz.underlying33 hi hz0 .i64 .i64 8 8 (by omega) (by omega) (by rw [hz2]; omega) (by omega)
  rw [hz1] at hr
  have hmz : madeCells (Value.int .i64 0).cells (Int.toNat 8 * 1) = #[.int .i64 0, .int .i64 0, .int .i64 0, .int .i64 0, .int .i64 0, .int .i64 0, .int .i64 0, .int .i64 0] := by
    apply Array.ext
    · simp [madeCells]
    · intro i h1 h2
      have h3 : i < 8 := by simpa [madeCells] using h1
      have : i = 0 ∨ i = 1 ∨ i = 2 ∨ i = 3 ∨ i = 4 ∨ i = 5 ∨ i = 6 ∨ i = 7 := by omega
      simp only [madeCells, Value.cells]
      rcases this with rfl | rfl | rfl | rfl | rfl | rfl | rfl | rfl <;> simp
  rw [hmz] at hr
  exact hr
theorem own_zero8 (W : World) : OwnInts W.heap.size (W.alloc (.cells #[.int .i64 0, .int .i64 0, .int .i64 0, .int .i64 0, .int .i64 0, .int .i64 0, .int .i64 0, .int .i64 0] 3)) (.slice (some ⟨W.heap.size, 0, none⟩) 8 8) (List.replicate 8 0) :=
  ⟨rfl, .inr ⟨W.heap.size, 8, #[.int .i64 0, .int .i64 0, .int .i64 0, .int .i64 0, .int .i64 0, .int .i64 0, .int .i64 0, .int .i64 0], rfl, Nat.le_refl _, World.alloc_heap_new _ _, Nat.le_refl _, by unfold maxLen; omega, rfl, rfl⟩⟩
theorem own_eight (W : World) : OwnInts W.heap.size (W.alloc (.cells #[.int .i64 0, .int .i64 1, .int .i64 2, .int .i64 3, .int .i64 4, .int .i64 5, .int .i64 6, .int .i64 7] 3)) (.slice (some ⟨W.heap.size, 0, none⟩) 8 8) idL :=
  ⟨rfl, .inr ⟨W.heap.size, 8, #[.int .i64 0, .int .i64 1, .int .i64 2, .int .i64 3, .int .i64 4, .int .i64 5, .int .i64 6, .int .i64 7], rfl, Nat.le_refl _, World.alloc_heap_new _ _, Nat.le_refl _, by unfold maxLen; omega, rfl, rfl⟩⟩
theorem own_eight_at (W : World) (b : Nat) (hb : b = W.heap.size) : OwnInts W.heap.size (W.alloc (.cells #[.int .i64 0, .int .i64 1, .int .i64 2, .int .i64 3, .int .i64 4, .int .i64 5, .int .i64 6, .int .i64 7] 3)) (.slice (some ⟨b, 0, none⟩) 8 8) idL := by
  subst hb; exact own_eight W
theorem own_zero8_at (W : World) (b : Nat) (hb : b = W.heap.size) : OwnInts W.heap.size (W.alloc (.cells #[.int .i64 0, .int .i64 0, .int .i64 0, .int .i64 0, .int .i64 0, .int .i64 0, .int .i64 0, .int .i64 0] 3)) (.slice (some ⟨b, 0, none⟩) 8 8) (List.replicate 8 0) := by
  subst hb; exact own_zero8 W
end Go.Proofs.YtidgdfjnjgonoaaGreatDoor
