/-
  What is true of the library's programs.
-/
import Derived.Test.YtidgdfjnjgonoaaGreatDoorQLib
namespace Go.Proofs.YtidgdfjnjgonoaaGreatDoor
open Go Go.RowKit

theorem lib_len (l : List Nat) : 1 ≤ (libS l).length ∧ (libS l).length ≤ 6 := by
  unfold libS
  generalize ((l[1]?.getD 0 : Nat) : Int) % 8 = D
  generalize ((l[2]?.getD 0 : Nat) : Int) % 8 = E
  generalize (((l[1]?.getD 0 : Nat) : Int) + 4) % 8 = B
  generalize ((l[3]?.getD 0 : Nat) : Int) % 6 = K
  generalize ((l[4]?.getD 0 : Nat) : Int) % 4 = R
  have h : l[0]?.getD 0 % 16 < 16 := Nat.mod_lt _ (by omega)
  generalize l[0]?.getD 0 % 16 = i at h
  have : i = 0 ∨ i = 1 ∨ i = 2 ∨ i = 3 ∨ i = 4 ∨ i = 5 ∨ i = 6 ∨ i = 7 ∨ i = 8 ∨ i = 9 ∨ i = 10 ∨ i = 11 ∨ i = 12 ∨ i = 13 ∨ i = 14 ∨ i = 15 := by omega
  rcases this with rfl | rfl | rfl | rfl | rfl | rfl | rfl | rfl | rfl | rfl | rfl | rfl | rfl | rfl | rfl | rfl <;> simp [libL]


end Go.Proofs.YtidgdfjnjgonoaaGreatDoor
