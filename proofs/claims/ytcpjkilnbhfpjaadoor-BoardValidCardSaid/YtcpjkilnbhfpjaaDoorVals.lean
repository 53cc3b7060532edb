/-
  BoardValid returns true: what all ways have in common.
-/
import Derived.Test.YtcpjkilnbhfpjaaDoorLawA
import Derived.Test.YtcpjkilnbhfpjaaDoorValsP
namespace Go.Proofs.YtcpjkilnbhfpjaaDoor
open Go Go.RowKit Go.Shelf

set_option maxRecDepth 100000 in
set_option maxHeartbeats 8000000 in
theorem vals_many (B : Brd) (an at_ : Option Addr) (cn ct : Nat) (xs : Array Value) (a0 a1 a2 a3 : Int) (w : World) (hR : RaysIn w) (hH : Held w.heap.size w an at_ B) (h70 : 70 < B.next.length ∨ 70 < B.turn.length) :
    Calls Tryd.prog 4 #[B.val an cn at_ ct, .agg xs, .agg #[.int .i16 a0, .int .i16 a1, .int .i16 a2, .int .i16 a3]] w fun e w' => e = .returned (.bool true) ∧ Below w.heap.size w w' := by
  go_enter Tryd.func4, Tryd.ntmps4
  go_wp2_with fail
  obtain ⟨wa, hwa⟩ : ∃ wa, wa = w.alloc (.cells #[.int .i64 B.cells, .slice an B.next.length cn, .slice at_ B.turn.length ct] 31) := ⟨_, rfl⟩
  have sa : wa.heap.size = w.heap.size + 1 := by rw [hwa, World.size_alloc]
  have y1 : InBox wa w.heap.size an at_ cn ct B := by rw [hwa]; exact InBox.new cn ct hH
  have ba : Below w.heap.size w wa := by rw [hwa]; exact below_alloc (Below.refl _ _) _
  rw [← hwa]
  clear hwa
  obtain ⟨wb, hwb⟩ : ∃ wb, wb = wa.alloc (.cells xs 24) := ⟨_, rfl⟩
  have sb : wb.heap.size = w.heap.size + 1 + 1 := by rw [hwb, World.size_alloc, sa]
  replace y1 : InBox wb w.heap.size an at_ cn ct B := by rw [hwb]; exact y1.up (below_alloc (Below.refl _ _) _)
  have xb : wb.heap[w.heap.size + 1]? = some (.cells xs 24 (0, 0)) := by rw [hwb, ← sa]; exact World.alloc_heap_new _ _
  have bb : Below w.heap.size w wb := by rw [hwb]; exact below_alloc ba _
  rw [← hwb]
  clear hwb ba
  obtain ⟨wc, hwc⟩ : ∃ wc, wc = wb.alloc (.cells #[.int .i16 a0, .int .i16 a1, .int .i16 a2, .int .i16 a3] 26) := ⟨_, rfl⟩
  have sc : wc.heap.size = w.heap.size + 1 + 1 + 1 := by rw [hwc, World.size_alloc, sb]
  replace y1 : InBox wc w.heap.size an at_ cn ct B := by rw [hwc]; exact y1.up (below_alloc (Below.refl _ _) _)
  have xc : wc.heap[w.heap.size + 1]? = some (.cells xs 24 (0, 0)) := by rw [hwc]; exact (((Below.refl wb.heap.size wb).alloc (Nat.le_refl _) _).block _ (by omega)).trans xb
  have v0 : wc.cell? ⟨w.heap.size + 1 + 1, 0, none⟩ = some (.int .i16 a0) := by rw [hwc, ← sb]; exact cell_new_at _ _ _ _ _ _ rfl rfl
  have v1 : wc.cell? ⟨w.heap.size + 1 + 1, 1, none⟩ = some (.int .i16 a1) := by rw [hwc, ← sb]; exact cell_new_at _ _ _ _ _ _ rfl rfl
  have v2 : wc.cell? ⟨w.heap.size + 1 + 1, 2, none⟩ = some (.int .i16 a2) := by rw [hwc, ← sb]; exact cell_new_at _ _ _ _ _ _ rfl rfl
  have v3 : wc.cell? ⟨w.heap.size + 1 + 1, 3, none⟩ = some (.int .i16 a3) := by rw [hwc, ← sb]; exact cell_new_at _ _ _ _ _ _ rfl rfl
  have bc : Below w.heap.size w wc := by rw [hwc]; exact below_alloc bb _
  rw [← hwc]
  clear hwc bb xb sa sb
  refine (sanity_any wc (hR.up bc)).mono ?_
  rintro e w1 ⟨rfl, hb1⟩
  replace y1 := y1.up hb1
  replace xc := (hb1.block _ (by omega)).trans xc
  replace v0 := cell_keep hb1 v0
  replace v1 := cell_keep hb1 v1
  replace v2 := cell_keep hb1 v2
  replace v3 := cell_keep hb1 v3
  replace bc := below_step bc hb1
  have s1 : w.heap.size + 1 + 1 + 1 ≤ w1.heap.size := by have := hb1.size; omega
  clear hb1 sc
  obtain ⟨c0, c1, c2, _⟩ := id y1
  clear v0 v1 v2 v3 xc
  by_cases h : 70 < B.next.length
  · have t1 : decide (70 < B.next.length) = true := by simpa using h
    have t1' : decide ((70 : Int) < (B.next.length : Int)) = true := by simp; omega
    go_wp2
    go_ret
    exact ⟨rfl, bc⟩
  · have t1 : decide (70 < B.next.length) = false := by simpa using h
    have t1' : decide ((70 : Int) < (B.next.length : Int)) = false := by simp; omega
    have t2 : decide (70 < B.turn.length) = true := by simp; omega
    have t2' : decide ((70 : Int) < (B.turn.length : Int)) = true := by simp; omega
    go_wp2
    go_ret
    exact ⟨rfl, bc⟩
end Go.Proofs.YtcpjkilnbhfpjaaDoor
