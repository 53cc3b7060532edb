/-
  Programs as plain lists, and what it means that memory holds them; isOp, hasDir and Valid of the package prog.
-/
import Derived.Test.YtidgdfjnjgonoaaGreatDoorLib0
import Derived.Deep.QuietTactic
import Derived.BigQuiet
import Derived.StillTailTactics
namespace Go.Proofs.YtidgdfjnjgonoaaGreatDoor
open Go Go.RowKit

/-- The slice whose first place is a, of as many places as l is long, holds the steps l, in a block below n. -/
def Prg (n : Nat) (W : World) (a : Option Addr) (l : List (Int × Int)) : Prop :=
  l = [] ∨ ∃ b off, a = some ⟨b, off, none⟩ ∧ b < n ∧ ∀ j, j < l.length → W.cell? ⟨b, off + j * 2, none⟩ = some (.int .i64 (l[j]?.getD (0, 0)).1) ∧ W.cell? ⟨b, off + j * 2 + 1, none⟩ = some (.int .i64 (l[j]?.getD (0, 0)).2)

theorem Prg.below {n : Nat} {A B : World} {a : Option Addr} {l : List (Int × Int)} (h : Prg n A a l) (hb : Below n A B) : Prg n B a l := by
  rcases h with h | ⟨b, off, e, hn, hc⟩
  · exact .inl h
  · exact .inr ⟨b, off, e, hn, fun j hj => ⟨(hb.cell (p := ⟨b, off + j * 2, none⟩) hn).trans (hc j hj).1, (hb.cell (p := ⟨b, off + j * 2 + 1, none⟩) hn).trans (hc j hj).2⟩⟩
theorem Prg.mono {n m : Nat} {A : World} {a : Option Addr} {l : List (Int × Int)} (h : Prg n A a l) (hm : n ≤ m) : Prg m A a l := by
  rcases h with h | ⟨b, off, e, hn, hc⟩
  · exact .inl h
  · exact .inr ⟨b, off, e, by omega, hc⟩
theorem Prg.up {N : Nat} {w w1 : World} {a : Option Addr} {l : List (Int × Int)} (h : Prg N w a l) (hN : N ≤ w.heap.size) (hb : Below w.heap.size w w1) : Prg N w1 a l := h.below (hb.mono hN)
theorem Prg.at_ {n : Nat} {W : World} {a : Option Addr} {l : List (Int × Int)} (h : Prg n W a l) {j : Nat} (hj : j < l.length) :
    ∃ b off, a = some ⟨b, off, none⟩ ∧ b < n ∧ W.cell? ⟨b, off + j * 2, none⟩ = some (.int .i64 (l[j]?.getD (0, 0)).1) ∧ W.cell? ⟨b, off + j * 2 + 1, none⟩ = some (.int .i64 (l[j]?.getD (0, 0)).2) := by
  rcases h with rfl | ⟨b, off, e, hn, hc⟩
  · simp at hj
  · exact ⟨b, off, e, hn, (hc j hj).1, (hc j hj).2⟩

/-- The words of steps, and what their numbers name. -/
def wordL : List (List UInt8) := [[], [103, 111], [115, 108, 105, 100, 101], [101, 109, 112, 116, 121], [101, 110, 101, 109, 121], [102, 114, 105, 101, 110, 100], [116, 97, 107, 101], [112, 117, 115, 104], [98, 101, 99, 111, 109, 101], [110, 101, 101, 100], [108, 111, 115, 101]]
def namesL : List Int := [0, 1, 1, 0, 0, 0, 0, 1, 2, 3, 3]
def wordS (j : Nat) : ByteArray := ⟨(wordL[j]?.getD []).toArray⟩
def nameS (j : Nat) : Int := namesL[j]?.getD 0
def SignsIn (W : World) : Prop := ∀ j, j < 11 → W.cell? ⟨0, j * 2, none⟩ = some (.string (wordS j)) ∧ W.cell? ⟨0, j * 2 + 1, none⟩ = some (.int .i64 (nameS j))
theorem SignsIn.up {w w' : World} (h : SignsIn w) (hb : Below w.heap.size w w') : SignsIn w' := fun j hj => ⟨cell_keep hb (h j hj).1, cell_keep hb (h j hj).2⟩

def opB (op : Int) : Bool := decide (0 < op) && decide (op < 11)
theorem opB_nat {op : Int} (h : opB op = true) : ∃ j : Nat, op = j ∧ 0 < j ∧ j < 11 := by
  unfold opB at h
  simp only [Bool.and_eq_true, decide_eq_true_eq] at h
  exact ⟨op.toNat, by omega, by omega, by omega⟩

theorem isOp_any (op : Int) (w : World) : Calls Tryz.prog 29 #[.int .i64 op] w fun e w' => e = .returned (.bool (opB op)) ∧ w' = w := by
  unfold opB
  by_cases h : 0 < op
  · have t : decide (0 < op) = true := by simpa using h
    go_enter Tryz.func29, Tryz.ntmps29
    go_wp2
    go_ret
    exact ⟨by simp [h], rfl⟩
  · have t : decide (0 < op) = false := by simpa using h
    rw [t]
    go_enter Tryz.func29, Tryz.ntmps29
    go_wp2
    go_ret
    exact ⟨by simp, rfl⟩

def hasDirB (op : Int) : Bool := opB op && decide (nameS op.toNat = 1)
theorem hasDir_any (op n : Int) (w : World) (hS : SignsIn w) :
    Calls Tryz.prog 34 #[.agg #[.int .i64 op, .int .i64 n]] w fun e w' => e = .returned (.bool (hasDirB op)) ∧ Below w.heap.size w w' := by
  unfold hasDirB
  cases h : opB op with
  | false =>
    have HH := Lib.hid h
    clear h
    go_enter Tryz.func34, Tryz.ntmps34
    go_wp2_with (go_at_call 29; refine (isOp_any op _).mono ?_; rintro e w' ⟨rfl, rfl⟩; rw [HH.out])
    go_ret
    exact ⟨by simp, by (repeat (first | exact Below.refl _ _ | assumption | refine below_alloc ?_ _ | refine Below.drew ?_ | refine below_drewN_ ?_ _ | refine below_step ?_ (by assumption)))⟩
  | true =>
    obtain ⟨j, rfl, h0, h11⟩ := opB_nat h
    obtain ⟨_, hn⟩ := hS j h11
    have h0b : (0 : Nat) < w.heap.size := World.block_lt_of_cell? w _ hn
    rw [Int.toNat_natCast]
    have HH := Lib.hid h
    have h11' : (j : Int) < 11 := by omega
    generalize nameS j = m at hn
    clear h
    go_enter Tryz.func34, Tryz.ntmps34
    go_wp2_with (go_at_call 29; refine (isOp_any (j : Int) _).mono ?_; rintro e w' ⟨rfl, rfl⟩; rw [HH.out])
    go_ret
    exact ⟨by simp; rw [Bool.eq_iff_iff]; simp, by (repeat (first | exact Below.refl _ _ | assumption | refine below_alloc ?_ _ | refine Below.drew ?_ | refine below_drewN_ ?_ _ | refine below_step ?_ (by assumption)))⟩
end Go.Proofs.YtidgdfjnjgonoaaGreatDoor
