/-
  written and Print of the package prog.
-/
import Derived.Test.YtidgdfjnjgonoaaGreatDoorPValid
import Derived.Test.YtidgdfjnjgonoaaGreatDoorShelf
import Derived.Sort.OwnSortedInts
namespace Go.Proofs.YtidgdfjnjgonoaaGreatDoor
open Go Go.RowKit Go.Sort Go.Lib

def strV (l : List UInt8) : Value := .string ⟨l.toArray⟩
/-- What is written for a step. -/
def writtenS (x : Int × Int) : List UInt8 := wordL[x.1.toNat]?.getD [] ++ if nameS x.1.toNat = 0 then [] else itoa x.2
theorem itoa_nat (i : Nat) : itoa (i : Int) = decDigits i := by unfold itoa; rw [if_neg (by omega)]; rfl

theorem word_len (op : Nat) : (wordL[op]?.getD []).length ≤ 6 := by
  unfold wordL
  by_cases h : op < 11
  · have : op = 0 ∨ op = 1 ∨ op = 2 ∨ op = 3 ∨ op = 4 ∨ op = 5 ∨ op = 6 ∨ op = 7 ∨ op = 8 ∨ op = 9 ∨ op = 10 := by omega
    rcases this with rfl | rfl | rfl | rfl | rfl | rfl | rfl | rfl | rfl | rfl | rfl <;> decide
  · rw [List.getElem?_eq_none (by simp; omega)]; simp
theorem dec_len (n : Nat) (hn : n < 100) : (decDigits n).length ≤ 2 := by
  unfold decDigits
  split
  · simp
  · unfold decDigits
    rw [dif_pos (by omega)]
    simp
theorem app_str (a b : List UInt8) : ((⟨a.toArray⟩ : ByteArray) ++ ⟨b.toArray⟩) = ⟨(a ++ b).toArray⟩ := by
  apply ByteArray.ext
  simp

set_option maxRecDepth 100000 in
theorem written_any (op : Nat) (n : Nat) (w : World) (h11 : op < 11) (hn : n < 100) (hS : SignsIn w) :
    Calls Tryz.prog 38 #[.agg #[.int .i64 op, .int .i64 n]] w fun e w' => e = .returned (.string ⟨(writtenS ((op : Int), (n : Int))).toArray⟩) ∧ Below w.heap.size w w' := by
  obtain ⟨hw, hm⟩ := hS op h11
  have h11' : (op : Int) < 11 := by omega
  have h0b : (0 : Nat) < w.heap.size := World.block_lt_of_cell? w _ hm
  have hval : writtenS ((op : Int), (n : Int)) = wordL[op]?.getD [] ++ if nameS op = 0 then [] else decDigits n := by
    unfold writtenS
    rw [Int.toNat_natCast, itoa_nat]
  rw [hval]
  unfold wordS at hw
  have hwl : (wordL[op]?.getD []).length ≤ 6 := word_len op
  have hdl : (decDigits n).length ≤ 2 := dec_len n hn
  have hsum : ¬ 9223372036854775807 < (wordL[op]?.getD []).length + (decDigits n).length := by omega
  generalize wordL[op]?.getD [] = wd at hw hwl hsum ⊢
  generalize nameS op = m at hm ⊢
  clear hval
  by_cases h0 : m = 0
  · have t1 : (m == 0) = true := by simpa using h0
    have t2 : decide (m = 0) = true := by simpa using h0
    have H0 := Lib.hid h0
    clear h0
    go_enter Tryz.func38, Tryz.ntmps38
    go_wp2
    go_ret
    first | exact ⟨rfl, by (repeat (first | exact Below.refl _ _ | assumption | refine below_alloc ?_ _ | refine Below.drew ?_ | refine below_drewN_ ?_ _ | refine below_step ?_ (by assumption)))⟩ | exact ⟨by rw [if_pos H0.out, List.append_nil]; rfl, by (repeat (first | exact Below.refl _ _ | assumption | refine below_alloc ?_ _ | refine Below.drew ?_ | refine below_drewN_ ?_ _ | refine below_step ?_ (by assumption)))⟩
  · have t1 : (m == 0) = false := by simpa using h0
    have t2 : decide (m = 0) = false := by simpa using h0
    have H0 := Lib.hid h0
    have hit := fun W => Tryz.strconv_Itoa_small n hn W
    have HIT := Lib.hid hit
    clear h0 hit
    go_enter Tryz.func38, Tryz.ntmps38
    go_wp2_with fail
    refine (HIT.out _).mono ?_
    rintro e w' ⟨rfl, rfl⟩
    go_wp2
    go_ret
    exact ⟨by rw [← app_str]; rfl, by (repeat (first | exact Below.refl _ _ | assumption | refine below_alloc ?_ _ | refine Below.drew ?_ | refine below_drewN_ ?_ _ | refine below_step ?_ (by assumption)))⟩
end Go.Proofs.YtidgdfjnjgonoaaGreatDoor
