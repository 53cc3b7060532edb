/-
  The number of a sign; clones of lists of numbers.
-/
import Derived.Test.YtphhkfelpckilaaGreatDoorDSign
import Derived.Test.YtphhkfelpckilaaGreatDoorPush
import Derived.Test.YtphhkfelpckilaaGreatDoorShelf
namespace Go.Proofs.YtphhkfelpckilaaGreatDoor
open Go Go.RowKit

theorem number_any (s : List UInt8) (r : Int) (w : World) (h0 : 0 ≤ r) (h1 : r < 128) :
    Calls Tryz.prog 80 #[.string ⟨s.toArray⟩, .int .i32 r] w fun e w' => e = .returned (.int .i64 (Lib.indexByte s r.toNat.toUInt8)) ∧ w' = w := by
  have HI := Lib.hid (Tryz.strings_IndexRune_ascii ⟨s.toArray⟩ r w h0 h1)
  clear h0 h1
  go_enter Tryz.func80, Tryz.ntmps80
  go_wp2_with (go_at_call 99; refine HI.out.mono ?_; rintro e w' ⟨rfl, rfl⟩)
  go_ret
  exact ⟨rfl, rfl⟩
theorem info_int1 : (Tryz.prog.info? 3).map (fun i => (i.zero, i.size, i.bytes)) = some (some (.int .i64 0), 1, 8) := by kernel_rfl
/-- slices.Clone of numbers. -/
theorem clone_any (a : Option Addr) (cap N : Nat) (l : List Int) (w : World) (h1 : 1 ≤ l.length) (hl : l.length ≤ 1000) (hI : Ints N w a l) :
    Calls Tryz.prog 70 #[.slice a l.length cap] w fun e w' => ∃ g c', e = .returned (.slice (some ⟨g, 0, none⟩) l.length c') ∧ OwnInts w.heap.size w' (.slice (some ⟨g, 0, none⟩) l.length c') l ∧ Below w.heap.size w w' := by
  obtain ⟨i0, hi, hz0, hz1, hz2⟩ := info_parts info_int1
  have hlen := h1
  have key : ∀ b off, (∀ j, j < l.length → w.cell? ⟨b, off + j, none⟩ = some (.int .i64 (l[j]?.getD 0))) → Calls Tryz.prog 70 #[.slice (some ⟨b, off, none⟩) l.length cap] w fun e w' => ∃ g c', e = .returned (.slice (some ⟨g, 0, none⟩) l.length c') ∧ OwnInts w.heap.size w' (.slice (some ⟨g, 0, none⟩) l.length c') l ∧ Below w.heap.size w w' := by
    intro b off hc
    refine (Tryz.slices_Clone i0 (.int .i64 0) 1 8 hi hz0 hz1 hz2 rfl (by decide) (fun w => by simp [Go.sizeOf, typeInfo, hi, hz1]) b off l.length cap (l.map (Value.int .i64)) w (by simp) (by unfold maxLen; omega) (by omega) (fun j u hu => ?_) (by simp [Value.oneCell'])).mono ?_
    · have hj : j < l.length := by have := (List.getElem?_eq_some_iff.1 hu).1; simpa using this
      rw [hc j hj, ← hu]; simp [hj]
    · rintro e w' ⟨v, rfl, h1, _, h2⟩
      rcases OwnInts.form (l := l) h1 with ⟨_, h⟩ | ⟨g, c', rfl, _⟩
      · subst h; simp at hlen
      · exact ⟨g, c', rfl, h1, h2⟩
  rcases hI with rfl | ⟨b, off, rfl, _, hc⟩
  · simp at h1
  · exact key b off hc
end Go.Proofs.YtphhkfelpckilaaGreatDoor
