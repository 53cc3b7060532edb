/-
  What next of the package board returns, for boards that are valid.
-/
import Derived.Test.YtcpjkilnbhfpjaaDoorA
namespace Go.Proofs.YtcpjkilnbhfpjaaDoor
open Go Go.RowKit

/-- The limits of a valid board, as far as steps need them. -/
structure Brd.Ok (B : Brd) : Prop where
  lo : 1 ≤ B.cells
  hi : B.cells ≤ 64
  dirs : B.next.length ≤ 8
  row : ∀ d, d < B.next.length → ((B.next[d]?.getD []).length : Int) = B.cells
  ent : ∀ d c : Nat, d < B.next.length → (c : Int) < B.cells → -1 ≤ (B.next[d]?.getD [])[c]?.getD 0 ∧ (B.next[d]?.getD [])[c]?.getD 0 < B.cells
  turn : B.turn.length = B.next.length
  tlo : ∀ d, d < B.turn.length → 0 ≤ B.turn[d]?.getD 0 ∧ B.turn[d]?.getD 0 < B.next.length

/-- The cell to which the direction d itself leads from c; -1 if there is none. -/
def nextS (B : Brd) (d c : Int) : Int :=
  if 0 ≤ d ∧ d < B.next.length ∧ 0 ≤ c ∧ c < B.cells then (B.next[d.toNat]?.getD [])[c.toNat]?.getD 0 else -1

set_option maxHeartbeats 1000000 in
theorem next_good (n : Int) (an : Option Addr) (ln cn : Nat) (y : Value) (d c : Nat) (b off : Nat) (a1 : Option Addr) (l1 c1 b1 off1 : Nat) (v : Int) (w : World)
    (hd : d < ln) (hc0 : (c : Int) < n) (hn : n ≤ 64) (ha : an = some ⟨b, off, none⟩)
    (hrow : w.cell? ⟨b, off + d, none⟩ = some (.slice a1 l1 c1)) (hl1 : c < l1) (ha1 : a1 = some ⟨b1, off1, none⟩)
    (hent : w.cell? ⟨b1, off1 + c, none⟩ = some (.int .i64 v)) (hv0 : 0 ≤ v) (hv1 : v < n) :
    Calls Tryd.prog 33 #[.agg #[.int .i64 n, .slice an ln cn, y], .int .i64 d, .int .i64 c] w fun e w' => e = .returned (.int .i64 v) ∧ Below w.heap.size w w' := by
  subst ha ha1
  have f1 : decide (ln ≤ d) = false := by simpa using hd
  have f2 : decide (l1 ≤ c) = false := by simpa using hl1
  go_enter Tryd.func33, Tryd.ntmps33
  go_wp2_with fail
  go_region_held3 (fun w' => w'.cell? ⟨w.heap.size, 0, none⟩ = some (.int .i64 n) ∧ w'.cell? ⟨w.heap.size, 1, none⟩ = some (.slice (some ⟨b, off, none⟩) ln cn) ∧ w'.cell? ⟨w.heap.size, 2, none⟩ = some y ∧
      w'.cell? ⟨b, off + d, none⟩ = some (.slice (some ⟨b1, off1, none⟩) l1 c1) ∧ w'.cell? ⟨b1, off1 + c, none⟩ = some (.int .i64 v) ∧ Below w.heap.size w w')
    (first
      | (go_keep; done)
      | ((try go_split_ands)
         refine ⟨?_, ?_, ?_, ?_, ?_, ?_⟩
         · first | exact cell_alloc_keep (by assumption) _ | (go_keep; done)
         · first | exact cell_alloc_keep (by assumption) _ | (go_keep; done)
         · first | exact cell_alloc_keep (by assumption) _ | (go_keep; done)
         · first | exact cell_alloc_keep (by assumption) _ | (go_keep; done)
         · first | exact cell_alloc_keep (by assumption) _ | (go_keep; done)
         · first
             | exact ((Below.refl _ _).alloc (Nat.le_refl _) _).drew
             | exact below_alloc (by assumption) _))
    (first | (go_at_call 41; refine (isCell_yes _ _ _ _ _ (by omega) (by omega) (by omega)).mono ?_; rintro e w' ⟨rfl, rfl⟩))
  go_wp2
  go_ret
  exact ⟨rfl, by (repeat (first | exact Below.refl _ _ | assumption | refine below_alloc ?_ _ | refine Below.drew ?_ | refine below_drewN_ ?_ _ | refine below_step ?_ (by assumption)))⟩

/-- .. where the cell's place holds -1. -/
theorem next_bad (n : Int) (an : Option Addr) (ln cn : Nat) (y : Value) (d c : Nat) (b off : Nat) (a1 : Option Addr) (l1 c1 b1 off1 : Nat) (v : Int) (w : World)
    (hd : d < ln) (hc0 : (c : Int) < n) (hn : n ≤ 64) (ha : an = some ⟨b, off, none⟩)
    (hrow : w.cell? ⟨b, off + d, none⟩ = some (.slice a1 l1 c1)) (hl1 : c < l1) (ha1 : a1 = some ⟨b1, off1, none⟩)
    (hent : w.cell? ⟨b1, off1 + c, none⟩ = some (.int .i64 v)) (hv0 : v < 0) :
    Calls Tryd.prog 33 #[.agg #[.int .i64 n, .slice an ln cn, y], .int .i64 d, .int .i64 c] w fun e w' => e = .returned (.int .i64 (-1)) ∧ Below w.heap.size w w' := by
  subst ha ha1
  have f1 : decide (ln ≤ d) = false := by simpa using hd
  have f2 : decide (l1 ≤ c) = false := by simpa using hl1
  go_enter Tryd.func33, Tryd.ntmps33
  go_wp2_with fail
  go_region_held3 (fun w' => w'.cell? ⟨w.heap.size, 0, none⟩ = some (.int .i64 n) ∧ w'.cell? ⟨w.heap.size, 1, none⟩ = some (.slice (some ⟨b, off, none⟩) ln cn) ∧ w'.cell? ⟨w.heap.size, 2, none⟩ = some y ∧
      w'.cell? ⟨b, off + d, none⟩ = some (.slice (some ⟨b1, off1, none⟩) l1 c1) ∧ w'.cell? ⟨b1, off1 + c, none⟩ = some (.int .i64 v) ∧ Below w.heap.size w w')
    (first
      | (go_keep; done)
      | ((try go_split_ands)
         refine ⟨?_, ?_, ?_, ?_, ?_, ?_⟩
         · first | exact cell_alloc_keep (by assumption) _ | (go_keep; done)
         · first | exact cell_alloc_keep (by assumption) _ | (go_keep; done)
         · first | exact cell_alloc_keep (by assumption) _ | (go_keep; done)
         · first | exact cell_alloc_keep (by assumption) _ | (go_keep; done)
         · first | exact cell_alloc_keep (by assumption) _ | (go_keep; done)
         · first
             | exact ((Below.refl _ _).alloc (Nat.le_refl _) _).drew
             | exact below_alloc (by assumption) _))
    (first | (go_at_call 41; refine (isCell_yes _ _ _ _ _ (by omega) (by omega) (by omega)).mono ?_; rintro e w' ⟨rfl, rfl⟩) | (go_at_call 41; refine (isCell_no _ _ _ _ _ (by omega) (by omega)).mono ?_; rintro e w' ⟨rfl, rfl⟩))
  go_wp2
  go_ret
  exact ⟨rfl, by (repeat (first | exact Below.refl _ _ | assumption | refine below_alloc ?_ _ | refine Below.drew ?_ | refine below_drewN_ ?_ _ | refine below_step ?_ (by assumption)))⟩

end Go.Proofs.YtcpjkilnbhfpjaaDoor
