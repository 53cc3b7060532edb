/-
  contents, copied and Of of the program.
-/
import Derived.Test.YtepbmgbomdekaaaXBx
import Derived.Test.YtepbmgbomdekaaaXM
namespace Go.Proofs.Ytepbmgbomdekaaa
open Go Go.RowKit

set_option maxRecDepth 100000 in
theorem contents_any (v0 vn vt vr vm vc vb ve : Value) (ak : Option Addr) (nk ck m : Nat) (w : World) (hnk : nk ≤ 1000) (hm : m = 2 * nk + 1) :
    Calls Try.prog 31 #[.agg #[v0, vn, vt, .slice ak nk ck, vr, vm, vc, vb, ve]] w fun e w' => e = .returned (.int .i64 (m : Int)) ∧ Below w.heap.size w w' := by
  have hb0 : Below w.heap.size w (w.alloc (.cells #[v0, vn, vt, .slice ak nk ck, vr, vm, vc, vb, ve] 35)) := below_alloc (Below.refl _ _) _
  go_enter Try.func31, Try.ntmps31
  have HM := Lib.hid hm
  clear hm
  go_wp2
  go_ret
  exact ⟨by rw [HM.out, show ((2 * nk + 1 : Nat) : Int) = 1 + 2 * (nk : Int) by omega]; rfl, hb0⟩

theorem OwnInts.at {n : Nat} {W : World} {g cap : Nat} {l : List Int} (h : OwnInts n W (.slice (some ⟨g, 0, none⟩) l.length cap) l) (hs : W.heap.size ≤ n) : Ints n W (some ⟨g, 0, none⟩) l := by
  obtain ⟨a, c, e, hi⟩ := h.ints
  cases e
  exact hi.mono hs
def Hand2 (h : Nat) (W : World) (s0 s1 : Value) : Prop := W.heap[h]? = some (.cells #[s0, s1] 25 (0, 0))
attribute [local go_sem] idx_hand0 idx_hand1
theorem info_hand : (Try.prog.info? 25).map (·.size) = some 2 := by kernel_rfl
set_option maxRecDepth 100000 in
set_option maxHeartbeats 2000000 in
theorem icopied_any (l0 l1 : List Int) (a0 a1 : Option Addr) (c0 c1 N : Nat) (w : World) (q1 : 1 ≤ l0.length) (q2 : l0.length ≤ 1000) (r1 : 1 ≤ l1.length) (r2 : l1.length ≤ 1000) (hN : N ≤ w.heap.size) (hP0 : Ints N w a0 l0) (hP1 : Ints N w a1 l1) :
    Calls Try.prog 32 #[.agg #[.slice a0 l0.length c0, .slice a1 l1.length c1]] w fun e w' => ∃ b0 b1 d0 d1, e = .returned (.agg #[.slice b0 l0.length d0, .slice b1 l1.length d1]) ∧ OwnInts w.heap.size w' (.slice b0 l0.length d0) l0 ∧ OwnInts w.heap.size w' (.slice b1 l1.length d1) l1 ∧ Below w.heap.size w w' := by
  go_enter Try.func32, Try.ntmps32
  go_upto_region 1 with (fail)
  obtain ⟨w0, ew0⟩ : ∃ w0, w0 = ((w.alloc (.cells #[.slice a0 l0.length c0, .slice a1 l1.length c1] 25)).alloc (.cells #[.slice none 0 0, .slice none 0 0] 25)) := ⟨_, rfl⟩
  have hb0 : Below w.heap.size w w0 := by rw [ew0]; exact below_alloc (below_alloc (Below.refl _ _) _) _
  have hX0 : Hand2 w.heap.size w0 (.slice a0 l0.length c0) (.slice a1 l1.length c1) := by
    unfold Hand2; rw [ew0, hp_old _ _ _ (by simp)]; exact World.alloc_heap_new _ _
  have hR0 : Hand2 (w.heap.size + 1) w0 (.slice none 0 0) (.slice none 0 0) := by
    unfold Hand2; rw [ew0]; have := World.alloc_heap_new (w.alloc (.cells #[.slice a0 l0.length c0, .slice a1 l1.length c1] 25)) (.cells #[.slice none 0 0, .slice none 0 0] 25); simpa using this
  rw [← ew0]
  clear ew0
  have hs0 : w.heap.size + 2 ≤ w0.heap.size := bx_lt hR0
  obtain ⟨h, eh⟩ : ∃ h, h = w.heap.size := ⟨_, rfl⟩
  have EH := Lib.hid eh
  have HP0 := Lib.hid (hP0.up hN hb0)
  have HP1 := Lib.hid (hP1.up hN hb0)
  simp only [← eh] at hN hb0 hX0 hR0 hs0 ⊢
  clear eh hP0 hP1
  have x0 : w0.cell? ⟨h, 0, none⟩ = some (.slice a0 l0.length c0) := bx_cell hX0 0 rfl
  have x1 : w0.cell? ⟨h, 1, none⟩ = some (.slice a1 l1.length c1) := bx_cell hX0 1 rfl
  have lx := bx_lt hX0
  go_wp2
  clear x0 x1
  go_loopw [6] (fun i wr => ∃ k : Nat, i = .int .i64 k ∧ Below h w0 wr ∧ Hand2 (h + 1) wr (.slice none 0 0) (.slice none 0 0) ∧
    ((k = 0 ∧ Hand2 h wr (.slice a0 l0.length c0) (.slice a1 l1.length c1)) ∨
     (k = 1 ∧ ∃ g0 d0, Hand2 h wr (.slice (some ⟨g0, 0, none⟩) l0.length d0) (.slice a1 l1.length c1) ∧ OwnInts (h + 2) wr (.slice (some ⟨g0, 0, none⟩) l0.length d0) l0) ∨
     (k = 2 ∧ ∃ g0 d0 g1 d1, Hand2 h wr (.slice (some ⟨g0, 0, none⟩) l0.length d0) (.slice (some ⟨g1, 0, none⟩) l1.length d1) ∧ OwnInts (h + 2) wr (.slice (some ⟨g0, 0, none⟩) l0.length d0) l0 ∧ OwnInts (h + 2) wr (.slice (some ⟨g1, 0, none⟩) l1.length d1) l1))) (fun i _ => 2 - (intOf i).toNat)
  case atStart => exact ⟨0, rfl, Below.refl _ _, hR0, .inl ⟨rfl, hX0⟩⟩
  case round =>
    clear hX0 hR0
    obtain ⟨k, rfl, hb, hR, hk⟩ := hrel
    rcases hk with ⟨rfl, hC⟩ | ⟨rfl, g0, d0, hC, ho0⟩ | ⟨rfl, g0, d0, g1, d1, hC, ho0, ho1⟩
    · have hl := bx_lt hC
      have hlr := bx_lt hR
      have HN := Lib.hid (clone_any a0 c0 N l0 wr q1 q2 (HP0.out.below (hb.mono hN)))
      have HS := Lib.hid (show ∀ (w1 : World) (g0 d0 : Nat), OwnInts wr.heap.size w1 (.slice (some ⟨g0, 0, none⟩) l0.length d0) l0 → Below wr.heap.size wr w1 → _ from fun w1 g0 d0 h1 h2 => And.intro (below_next (h := h) hb hl h2 0 (.slice (some ⟨g0, 0, none⟩) l0.length d0)) (And.intro (block_next (h := h) hR h2 (by omega) 0 (.slice (some ⟨g0, 0, none⟩) l0.length d0)) (And.intro (bx_set ((h2.block h hl).trans hC) 0 (.slice (some ⟨g0, 0, none⟩) l0.length d0)) (own_set (OwnInts.mono h1 (show h + 2 ≤ wr.heap.size by omega)) 0 (.slice (some ⟨g0, 0, none⟩) l0.length d0)))))
      have HCC := Lib.hid hC
      clear hb hR hC
      go_loud (go_wp2_with (go_at_call 43; refine HN.out.mono ?_; rintro e w1 ⟨g0, d0, rfl, ho1, hb1⟩; have HT := Lib.hid (HS.out w1 g0 d0 ho1 hb1); have hX1 := (hb1.block h hl).trans HCC.out; have hx1 : w1.cell? ⟨h, 0, none⟩ = some (.slice a0 l0.length c0) := bx_cell hX1 0 rfl; have hxf1 := bx_frozen hX1 0; have hl1 := bx_lt hX1; clear hX1 ho1 hb1 HS))
      go_roundw
      case rel => exact ⟨1, by simp, HT.out.1, HT.out.2.1, .inr (.inl ⟨rfl, g0, d0, HT.out.2.2.1, HT.out.2.2.2⟩)⟩
      case measure => simp [intOf]
    · have hl := bx_lt hC
      have hlr := bx_lt hR
      have HN := Lib.hid (clone_any a1 c1 N l1 wr r1 r2 (HP1.out.below (hb.mono hN)))
      have HS := Lib.hid (show ∀ (w1 : World) (g1 d1 : Nat), OwnInts wr.heap.size w1 (.slice (some ⟨g1, 0, none⟩) l1.length d1) l1 → Below wr.heap.size wr w1 → _ from fun w1 g1 d1 h1 h2 => And.intro (below_next (h := h) hb hl h2 1 (.slice (some ⟨g1, 0, none⟩) l1.length d1)) (And.intro (block_next (h := h) hR h2 (by omega) 1 (.slice (some ⟨g1, 0, none⟩) l1.length d1)) (And.intro (bx_set ((h2.block h hl).trans hC) 1 (.slice (some ⟨g1, 0, none⟩) l1.length d1)) (And.intro (own_next ho0 h2 1 (.slice (some ⟨g1, 0, none⟩) l1.length d1)) (own_set (OwnInts.mono h1 (show h + 2 ≤ wr.heap.size by omega)) 1 (.slice (some ⟨g1, 0, none⟩) l1.length d1))))))
      have HCC := Lib.hid hC
      clear hb hR hC ho0
      go_loud (go_wp2_with (go_at_call 43; refine HN.out.mono ?_; rintro e w1 ⟨g1, d1, rfl, ho1, hb1⟩; have HT := Lib.hid (HS.out w1 g1 d1 ho1 hb1); have hX1 := (hb1.block h hl).trans HCC.out; have hx1 : w1.cell? ⟨h, 1, none⟩ = some (.slice a1 l1.length c1) := bx_cell hX1 1 rfl; have hxf1 := bx_frozen hX1 1; have hl1 := bx_lt hX1; clear hX1 ho1 hb1 HS))
      go_roundw
      case rel => exact ⟨2, by simp, HT.out.1, HT.out.2.1, .inr (.inr ⟨rfl, g0, d0, g1, d1, HT.out.2.2.1, HT.out.2.2.2.1, HT.out.2.2.2.2⟩)⟩
      case measure => simp [intOf]
    · have z0 : wr.cell? ⟨h, 0, none⟩ = some (.slice (some ⟨g0, 0, none⟩) l0.length d0) := bx_cell hC 0 rfl
      have z1 : wr.cell? ⟨h, 1, none⟩ = some (.slice (some ⟨g1, 0, none⟩) l1.length d1) := bx_cell hC 1 rfl
      have y0 : wr.cell? ⟨h + 1, 0, none⟩ = some (.slice none 0 0) := bx_cell hR 0 rfl
      have y1 : wr.cell? ⟨h + 1, 1, none⟩ = some (.slice none 0 0) := bx_cell hR 1 rfl
      have f0 := bx_frozen hR 0
      have f1 := bx_frozen hR 1
      have lr := bx_lt hR
      have lh := bx_lt hC
      have HO := Lib.hid (And.intro ho0 (And.intro ho1 hb))
      have HH := Lib.hid hR
      clear ho0 ho1 hb hR hC
      go_wp2
      have HX : Hid (Hand2 (h + 1) ((wr.setCell ⟨h + 1, 0, none⟩ (.slice (some ⟨g0, 0, none⟩) l0.length d0)).setCell ⟨h + 1, 1, none⟩ (.slice (some ⟨g1, 0, none⟩) l1.length d1)) (.slice (some ⟨g0, 0, none⟩) l0.length d0) (.slice (some ⟨g1, 0, none⟩) l1.length d1)) := Lib.hid (bx_set (bx_set HH.out 0 _) 1 _)
      have HF := Lib.hid (show OwnInts (h + 2) ((wr.setCell ⟨h + 1, 0, none⟩ (.slice (some ⟨g0, 0, none⟩) l0.length d0)).setCell ⟨h + 1, 1, none⟩ (.slice (some ⟨g1, 0, none⟩) l1.length d1)) (.slice (some ⟨g0, 0, none⟩) l0.length d0) l0 ∧ OwnInts (h + 2) ((wr.setCell ⟨h + 1, 0, none⟩ (.slice (some ⟨g0, 0, none⟩) l0.length d0)).setCell ⟨h + 1, 1, none⟩ (.slice (some ⟨g1, 0, none⟩) l1.length d1)) (.slice (some ⟨g1, 0, none⟩) l1.length d1) l1 ∧ Below h w0 ((wr.setCell ⟨h + 1, 0, none⟩ (.slice (some ⟨g0, 0, none⟩) l0.length d0)).setCell ⟨h + 1, 1, none⟩ (.slice (some ⟨g1, 0, none⟩) l1.length d1)) from by
        obtain ⟨x1, x2, x3⟩ := HO.out
        obtain ⟨b1, s1⟩ := below_res x3 (by omega) 0 (.slice (some ⟨g0, 0, none⟩) l0.length d0)
        exact ⟨own_res (own_res x1 0 _) 1 _, own_res (own_res x2 0 _) 1 _, (below_res b1 s1 1 _).1⟩)
      clear z0 z1 y0 y1 f0 f1 HO HH
      generalize (wr.setCell ⟨h + 1, 0, none⟩ (.slice (some ⟨g0, 0, none⟩) l0.length d0)).setCell ⟨h + 1, 1, none⟩ (.slice (some ⟨g1, 0, none⟩) l1.length d1) = w5 at *
      refine bodyPost_ret_by (v := .agg #[.slice (some ⟨g0, 0, none⟩) l0.length d0, .slice (some ⟨g1, 0, none⟩) l1.length d1]) (results_cell_row rfl _ _ (h + 1) 25 _ (0, 0) _ rfl HX.out Try.underlying25 rfl info_hand) rfl ?_
      have hf := HF.out
      have eh := EH.out
      rw [← eh]
      exact ⟨_, _, _, _, rfl, OwnInts.mono hf.1 (by omega), OwnInts.mono hf.2.1 (by omega), hb0.trans hf.2.2⟩
end Go.Proofs.Ytepbmgbomdekaaa
