/-
  The fixed programs of the laws' examples: what is true of them.
-/
import Derived.Test.YtidgdfjnjgonoaaGreatDoorPParse
import Derived.Test.YtidgdfjnjgonoaaGreatDoorPTakes
import Derived.Test.YtidgdfjnjgonoaaGreatDoorPTurned
import Derived.Test.YtidgdfjnjgonoaaGreatDoorPDirs
import Derived.Test.YtidgdfjnjgonoaaGreatDoorPSame
namespace Go.Proofs.YtidgdfjnjgonoaaGreatDoor
open Go Go.RowKit Go.Sort Go.Lib

def sanA : List (Int × Int) := [(2, 7), (4, 0), (6, 0), (8, 5)]
def sanB : List (Int × Int) := [(9, 3), (1, 1), (7, 1), (10, 3)]
def sanT : List (Int × Int) := [(9, 3), (1, 6), (7, 6), (10, 3)]
theorem sanA_valid : validP sanA 8 6 4 = true := by decide +kernel
theorem sanB_valid : validP sanB 8 6 4 = true := by decide +kernel
theorem sanA_v1 : validP sanA 8 6 0 = true := by decide +kernel
theorem sanA_v2 : validP sanA 7 6 4 = false := by decide +kernel
theorem sanB_v1 : validP sanB 8 6 3 = false := by decide +kernel
theorem nil_valid : validP [] 8 6 4 = false := by decide +kernel
theorem sanA_takes : takesS sanA = true := by decide +kernel
theorem sanB_takes : takesS sanB = false := by decide +kernel
theorem sanA_print : printS sanA = [115, 108, 105, 100, 101, 55, 32, 101, 110, 101, 109, 121, 32, 116, 97, 107, 101, 32, 98, 101, 99, 111, 109, 101, 53] := by decide +kernel
theorem sanB_print : printS sanB = [110, 101, 101, 100, 51, 32, 103, 111, 49, 32, 112, 117, 115, 104, 49, 32, 108, 111, 115, 101, 51] := by decide +kernel
theorem nil_print : printS [] = [] := by decide +kernel
theorem sanB_parse : parseS [110, 101, 101, 100, 51, 32, 103, 111, 49, 32, 112, 117, 115, 104, 49, 32, 108, 111, 115, 101, 51] = (sanB, 0) := by decide +kernel
theorem odd0_parse : parseS [103, 111] = ([], 20) := by decide +kernel
theorem odd1_parse : parseS [103, 111, 56] = ([], 20) := by decide +kernel
theorem odd2_parse : parseS [103, 111, 48, 48] = ([], 20) := by decide +kernel
theorem odd3_parse : parseS [103, 111, 48, 32, 32, 101, 109, 112, 116, 121] = ([], 20) := by decide +kernel
theorem odd4_parse : parseS [101, 109, 112, 116, 121, 48] = ([], 20) := by decide +kernel
theorem odd5_parse : parseS [116, 97, 107, 101, 32, 116, 97, 107, 101, 32, 116, 97, 107, 101] = ([], 20) := by decide +kernel
theorem odd6_parse : parseS [] = ([], 20) := by decide +kernel
theorem sanA_dirs : dirsS sanA = [7] := by decide +kernel
theorem sanB_dirs : dirsS sanB = [1] := by
  unfold dirsS
  rw [show dirsL sanB = [1, 1] by decide +kernel]
  first | (rw [List.mergeSort_of_sorted (by decide)]; decide +kernel) | (rw [List.mergeSort_of_pairwise (by decide)]; decide +kernel) | (simp [List.mergeSort, compact]; done)
theorem sanB_turned : sanB.map (turn1 [5, 6]) = sanT := by decide +kernel
end Go.Proofs.YtidgdfjnjgonoaaGreatDoor
