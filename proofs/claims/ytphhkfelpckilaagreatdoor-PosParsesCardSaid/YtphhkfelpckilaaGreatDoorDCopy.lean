/-
  A copy of a position.
-/
import Derived.Test.YtphhkfelpckilaaGreatDoorDNums
import Derived.Test.YtphhkfelpckilaaGreatDoorDPos
import Derived.OwnWalk
namespace Go.Proofs.YtphhkfelpckilaaGreatDoor
open Go Go.RowKit

/-- A position whose lists are of the call's own, from block n on. -/
structure PosOwn (n : Nat) (W : World) (a a0 a1 : Option Addr) (c c0 c1 : Nat) (p : PosS) : Prop where
  cells : OwnInts n W (.slice a p.cells.length c) p.cells
  h0 : OwnInts n W (.slice a0 p.h0.length c0) p.h0
  h1 : OwnInts n W (.slice a1 p.h1.length c1) p.h1
structure PosSmall (p : PosS) : Prop where
  cells : 1 ≤ p.cells.length ∧ p.cells.length ≤ 1000
  h0 : 1 ≤ p.h0.length ∧ p.h0.length ≤ 1000
  h1 : 1 ≤ p.h1.length ∧ p.h1.length ≤ 1000

theorem bx_cell {W : World} {B : Nat} {cs : Array Value} {t : TypeId} (h : W.heap[B]? = some (.cells cs t (0, 0))) (j : Nat) {v : Value} (hv : cs[j]? = some v) : W.cell? ⟨B, j, none⟩ = some v := by
  unfold World.cell?
  simp [h, hv]
theorem bx_frozen {W : World} {B : Nat} {cs : Array Value} {t : TypeId} (h : W.heap[B]? = some (.cells cs t (0, 0))) (j : Nat) : W.frozen? ⟨B, j, none⟩ = false := by
  unfold World.frozen?
  simp [h]
theorem bx_set {W : World} {B : Nat} {cs : Array Value} {t : TypeId} (h : W.heap[B]? = some (.cells cs t (0, 0))) (j : Nat) (v : Value) : (W.setCell ⟨B, j, none⟩ v).heap[B]? = some (.cells (cs.setIfInBounds j v) t (0, 0)) := by
  simp [World.setCell, Array.getElem?_modify, h]
theorem hp_old (W : World) (o : Obj) (b : Nat) (h : b < W.heap.size) : (W.alloc o).heap[b]? = W.heap[b]? := by
  show (W.heap.push o)[b]? = _
  rw [Array.getElem?_push, if_neg (by omega)]
theorem bx_lt {W : World} {B : Nat} {o : Obj} (h : W.heap[B]? = some o) : B < W.heap.size := (Array.getElem?_eq_some_iff.1 h).1

theorem own_set {h : Nat} {w1 : World} {v : Value} {l : List Int} (ho : OwnInts (h + 2) w1 v l) (j : Nat) (u : Value) : OwnInts (h + 2) (w1.setCell ⟨h, j, none⟩ u) v l :=
  ho.alters (alters_cell w1 h j u) (fun k hk hv => by have hk : k = h := hk; have := (World.ownsRow.lt ho k hv.symm).1; omega)
theorem own_next {h : Nat} {W w1 : World} {v : Value} {l : List Int} (ho : OwnInts (h + 2) W v l) (hb : Below W.heap.size W w1) (j : Nat) (u : Value) : OwnInts (h + 2) (w1.setCell ⟨h, j, none⟩ u) v l :=
  own_set (ho.alters (S := fun _ => False) (Alters.of_below hb) (fun _ h => h.elim)) j u
theorem below_next {h : Nat} {w0 W w1 : World} (hb : Below h w0 W) (hh : h < W.heap.size) (hb1 : Below W.heap.size W w1) (j : Nat) (u : Value) : Below h w0 (w1.setCell ⟨h, j, none⟩ u) :=
  (hb.trans (hb1.mono (Nat.le_of_lt hh))).trans ((alters_cell w1 h j u).below (Nat.le_trans (Nat.le_of_lt hh) hb1.size) (fun _ hk => Nat.le_of_eq (Eq.symm hk)))
theorem block_next {h r : Nat} {W w1 : World} {o : Obj} (hr : W.heap[r]? = some o) (hb1 : Below W.heap.size W w1) (hne : r ≠ h) (j : Nat) (u : Value) : (w1.setCell ⟨h, j, none⟩ u).heap[r]? = some o :=
  ((alters_cell w1 h j u).block r (Nat.lt_of_lt_of_le (bx_lt hr) hb1.size) hne).trans ((hb1.block r (bx_lt hr)).trans hr)
theorem own_res {h : Nat} {w1 : World} {v : Value} {l : List Int} (ho : OwnInts (h + 2) w1 v l) (j : Nat) (u : Value) : OwnInts (h + 2) (w1.setCell ⟨h + 1, j, none⟩ u) v l :=
  ho.alters (alters_cell w1 (h + 1) j u) (fun k hk hv => by have hk : k = h + 1 := hk; have := (World.ownsRow.lt ho k hv.symm).1; omega)
theorem below_res {h : Nat} {w0 W : World} (hb : Below h w0 W) (hh : h ≤ W.heap.size) (j : Nat) (u : Value) : Below h w0 (W.setCell ⟨h + 1, j, none⟩ u) ∧ h ≤ (W.setCell ⟨h + 1, j, none⟩ u).heap.size :=
  ⟨hb.trans ((alters_cell W (h + 1) j u).below hh (fun k hk => by have hk : k = h + 1 := hk; omega)), Nat.le_trans hh (alters_cell W (h + 1) j u).size⟩
theorem own_five {h : Nat} {w1 : World} {v : Value} {l : List Int} (ho : OwnInts (h + 2) w1 v l) (u0 u1 u2 u3 u4 : Value) : OwnInts (h + 2) (((((w1.setCell ⟨h + 1, 0, none⟩ u0).setCell ⟨h + 1, 1, none⟩ u1).setCell ⟨h + 1, 2, none⟩ u2).setCell ⟨h + 1, 3, none⟩ u3).setCell ⟨h + 1, 4, none⟩ u4) v l :=
  own_res (own_res (own_res (own_res (own_res ho 0 u0) 1 u1) 2 u2) 3 u3) 4 u4
theorem below_five {h : Nat} {w0 W : World} (hb : Below h w0 W) (hh : h ≤ W.heap.size) (u0 u1 u2 u3 u4 : Value) : Below h w0 (((((W.setCell ⟨h + 1, 0, none⟩ u0).setCell ⟨h + 1, 1, none⟩ u1).setCell ⟨h + 1, 2, none⟩ u2).setCell ⟨h + 1, 3, none⟩ u3).setCell ⟨h + 1, 4, none⟩ u4) := by
  obtain ⟨b0, s0⟩ := below_res hb hh 0 u0
  obtain ⟨b1, s1⟩ := below_res b0 s0 1 u1
  obtain ⟨b2, s2⟩ := below_res b1 s1 2 u2
  obtain ⟨b3, s3⟩ := below_res b2 s2 3 u3
  exact (below_res b3 s3 4 u4).1
def CopL (h : Nat) (W : World) (s0 s1 s2 : Value) (r s : Int) : Prop := W.heap[h]? = some (.cells #[s0, s1, s2, .int .i64 r, .int .i64 s] 32 (0, 0))

theorem info_pos : (Tryz.prog.info? 32).map (·.size) = some 5 := by kernel_rfl
theorem idx_hand0 (a b : Option Addr) (n c m d : Nat) (w : World) : (Instr.index 30 (.agg #[.slice a n c, .slice b m d]) (.int .i64 0)).run Tryz.prog w = .ok (.slice a n c) w := by kernel_rfl
theorem idx_hand1 (a b : Option Addr) (n c m d : Nat) (w : World) : (Instr.index 30 (.agg #[.slice a n c, .slice b m d]) (.int .i64 1)).run Tryz.prog w = .ok (.slice b m d) w := by kernel_rfl
attribute [local go_sem] idx_hand0 idx_hand1
set_option maxRecDepth 100000 in
set_option maxHeartbeats 2000000 in
theorem copied_any (p : PosS) (a a0 a1 : Option Addr) (c c0 c1 N : Nat) (w : World) (hp : PosSmall p) (hN : N ≤ w.heap.size) (hP : PosIn N w a a0 a1 p) :
    Calls Tryz.prog 44 #[PosV a a0 a1 c c0 c1 p] w fun e w' => ∃ b b0 b1 d d0 d1, e = .returned (PosV b b0 b1 d d0 d1 p) ∧ PosOwn w.heap.size w' b b0 b1 d d0 d1 p ∧ Below w.heap.size w w' := by
  obtain ⟨⟨p1, p2⟩, ⟨q1, q2⟩, r1, r2⟩ := hp
  unfold PosV
  go_enter Tryz.func44, Tryz.ntmps44
  go_upto_region 1 with (fail)
  obtain ⟨w0, ew0⟩ : ∃ w0, w0 = ((w.alloc (.cells #[.slice a p.cells.length c, .slice a0 p.h0.length c0, .slice a1 p.h1.length c1, .int .i64 p.rights, .int .i64 p.side] 32)).alloc (.cells #[.slice none 0 0, .slice none 0 0, .slice none 0 0, .int .i64 0, .int .i64 0] 32)) := ⟨_, rfl⟩
  have hb0 : Below w.heap.size w w0 := by rw [ew0]; exact below_alloc (below_alloc (Below.refl _ _) _) _
  have hX0 : w0.heap[w.heap.size]? = some (.cells #[.slice a p.cells.length c, .slice a0 p.h0.length c0, .slice a1 p.h1.length c1, .int .i64 p.rights, .int .i64 p.side] 32 (0, 0)) := by
    rw [ew0, hp_old _ _ _ (by simp)]; exact World.alloc_heap_new _ _
  have hR0 : w0.heap[w.heap.size + 1]? = some (.cells #[.slice none 0 0, .slice none 0 0, .slice none 0 0, .int .i64 0, .int .i64 0] 32 (0, 0)) := by
    rw [ew0]; have := World.alloc_heap_new (w.alloc (.cells #[.slice a p.cells.length c, .slice a0 p.h0.length c0, .slice a1 p.h1.length c1, .int .i64 p.rights, .int .i64 p.side] 32)) (.cells #[.slice none 0 0, .slice none 0 0, .slice none 0 0, .int .i64 0, .int .i64 0] 32); simpa using this
  rw [← ew0]
  clear ew0
  have hP0 := hP.up hN hb0
  have hs0 : w.heap.size + 2 ≤ w0.heap.size := bx_lt hR0
  have hx0 : w0.cell? ⟨w.heap.size, 0, none⟩ = some (.slice a p.cells.length c) := bx_cell hX0 0 rfl
  obtain ⟨h, eh⟩ : ∃ h, h = w.heap.size := ⟨_, rfl⟩
  have EH := Lib.hid eh
  simp only [← eh] at hN hb0 hX0 hR0 hs0 hx0 ⊢
  clear eh
  have hl0 := bx_lt hX0
  have HC := Lib.hid (clone_any a c N p.cells w0 p1 p2 hP0.cells)
  have HP0 := Lib.hid hP0
  clear hP0 hP
  go_loud (go_upto_region 2 with (go_at_call 70; refine HC.out.mono ?_; rintro e w1 ⟨g, d, rfl, ho, hb1⟩; have hX1 := (hb1.block h hl0).trans hX0; have hx1 : w1.cell? ⟨h, 0, none⟩ = some (.slice a p.cells.length c) := bx_cell hX1 0 rfl; have hxf1 := bx_frozen hX1 0; have hl1 := bx_lt hX1))
  have hC2 : CopL h (w1.setCell ⟨h, 0, none⟩ (.slice (some ⟨g, 0, none⟩) p.cells.length d)) (.slice (some ⟨g, 0, none⟩) p.cells.length d) (.slice a0 p.h0.length c0) (.slice a1 p.h1.length c1) p.rights p.side := bx_set hX1 0 _
  have hR2 := block_next (h := h) hR0 hb1 (by omega) 0 (.slice (some ⟨g, 0, none⟩) p.cells.length d)
  have ho2 := own_set (OwnInts.mono ho hs0) 0 (.slice (some ⟨g, 0, none⟩) p.cells.length d)
  have hb2 := below_next (Below.refl h w0) hl0 hb1 0 (.slice (some ⟨g, 0, none⟩) p.cells.length d)
  clear hX0 hx0 hR0 hX1 hx1 hxf1 hl1 ho hb1
  generalize w1.setCell ⟨h, 0, none⟩ (.slice (some ⟨g, 0, none⟩) p.cells.length d) = w2 at *
  have hl2 := bx_lt hC2
  have k1 : w2.cell? ⟨h, 1, none⟩ = some (.slice a0 p.h0.length c0) := bx_cell hC2 1 rfl
  have k2 : w2.cell? ⟨h, 2, none⟩ = some (.slice a1 p.h1.length c1) := bx_cell hC2 2 rfl
  go_wp2
  clear k1 k2
  go_loopw [11] (fun i wr => ∃ k : Nat, i = .int .i64 k ∧ Below h w0 wr ∧ wr.heap[h + 1]? = some (.cells #[.slice none 0 0, .slice none 0 0, .slice none 0 0, .int .i64 0, .int .i64 0] 32 (0, 0)) ∧ OwnInts (h + 2) wr (.slice (some ⟨g, 0, none⟩) p.cells.length d) p.cells ∧
    ((k = 0 ∧ CopL h wr (.slice (some ⟨g, 0, none⟩) p.cells.length d) (.slice a0 p.h0.length c0) (.slice a1 p.h1.length c1) p.rights p.side) ∨
     (k = 1 ∧ ∃ g0 d0, CopL h wr (.slice (some ⟨g, 0, none⟩) p.cells.length d) (.slice (some ⟨g0, 0, none⟩) p.h0.length d0) (.slice a1 p.h1.length c1) p.rights p.side ∧ OwnInts (h + 2) wr (.slice (some ⟨g0, 0, none⟩) p.h0.length d0) p.h0) ∨
     (k = 2 ∧ ∃ g0 d0 g1 d1, CopL h wr (.slice (some ⟨g, 0, none⟩) p.cells.length d) (.slice (some ⟨g0, 0, none⟩) p.h0.length d0) (.slice (some ⟨g1, 0, none⟩) p.h1.length d1) p.rights p.side ∧ OwnInts (h + 2) wr (.slice (some ⟨g0, 0, none⟩) p.h0.length d0) p.h0 ∧ OwnInts (h + 2) wr (.slice (some ⟨g1, 0, none⟩) p.h1.length d1) p.h1))) (fun i _ => 2 - (intOf i).toNat)
  case atStart => exact ⟨0, rfl, hb2, hR2, ho2, .inl ⟨rfl, hC2⟩⟩
  case round =>
    clear hC2 hR2 ho2 hb2 hl2
    obtain ⟨k, rfl, hb, hR, ho, hk⟩ := hrel
    rcases hk with ⟨rfl, hC⟩ | ⟨rfl, g0, d0, hC, ho0⟩ | ⟨rfl, g0, d0, g1, d1, hC, ho0, ho1⟩
    · have hl := bx_lt hC
      have HN := Lib.hid (clone_any a0 c0 N p.h0 wr q1 q2 (HP0.out.h0.below (hb.mono hN)))
      have HS := Lib.hid (show ∀ (w1 : World) (g0 d0 : Nat), OwnInts wr.heap.size w1 (.slice (some ⟨g0, 0, none⟩) p.h0.length d0) p.h0 → Below wr.heap.size wr w1 → _ from fun w1 g0 d0 h1 h2 => And.intro (below_next (h := h) hb hl h2 1 (.slice (some ⟨g0, 0, none⟩) p.h0.length d0)) (And.intro (block_next (h := h) hR h2 (by omega) 1 (.slice (some ⟨g0, 0, none⟩) p.h0.length d0)) (And.intro (own_next (h := h) ho h2 1 (.slice (some ⟨g0, 0, none⟩) p.h0.length d0)) (And.intro (bx_set ((h2.block h hl).trans hC) 1 (.slice (some ⟨g0, 0, none⟩) p.h0.length d0)) (own_set (h := h) (OwnInts.mono h1 (Nat.le_trans hs0 hb.size)) 1 (.slice (some ⟨g0, 0, none⟩) p.h0.length d0))))))
      have HCC := Lib.hid hC
      clear hb hR ho hC
      go_loud (go_wp2_with (go_at_call 70; refine HN.out.mono ?_; rintro e w1 ⟨g0, d0, rfl, ho1, hb1⟩; have HT := Lib.hid (HS.out w1 g0 d0 ho1 hb1); have hX1 := (hb1.block h hl).trans HCC.out; have hx1 : w1.cell? ⟨h, 1, none⟩ = some (.slice a0 p.h0.length c0) := bx_cell hX1 1 rfl; have hxf1 := bx_frozen hX1 1; have hl1 := bx_lt hX1; clear hX1 ho1 hb1 HS))
      go_roundw
      case rel => exact ⟨1, by simp, HT.out.1, HT.out.2.1, HT.out.2.2.1, .inr (.inl ⟨rfl, g0, d0, HT.out.2.2.2.1, HT.out.2.2.2.2⟩)⟩
      case measure => simp [intOf]
    · have hl := bx_lt hC
      have HN := Lib.hid (clone_any a1 c1 N p.h1 wr r1 r2 (HP0.out.h1.below (hb.mono hN)))
      have HS := Lib.hid (show ∀ (w1 : World) (g1 d1 : Nat), OwnInts wr.heap.size w1 (.slice (some ⟨g1, 0, none⟩) p.h1.length d1) p.h1 → Below wr.heap.size wr w1 → _ from fun w1 g1 d1 h1 h2 => And.intro (below_next (h := h) hb hl h2 2 (.slice (some ⟨g1, 0, none⟩) p.h1.length d1)) (And.intro (block_next (h := h) hR h2 (by omega) 2 (.slice (some ⟨g1, 0, none⟩) p.h1.length d1)) (And.intro (own_next (h := h) ho h2 2 (.slice (some ⟨g1, 0, none⟩) p.h1.length d1)) (And.intro (bx_set ((h2.block h hl).trans hC) 2 (.slice (some ⟨g1, 0, none⟩) p.h1.length d1)) (And.intro (own_next (h := h) ho0 h2 2 (.slice (some ⟨g1, 0, none⟩) p.h1.length d1)) (own_set (h := h) (OwnInts.mono h1 (Nat.le_trans hs0 hb.size)) 2 (.slice (some ⟨g1, 0, none⟩) p.h1.length d1)))))))
      have HCC := Lib.hid hC
      clear hb hR ho hC ho0
      go_loud (go_wp2_with (go_at_call 70; refine HN.out.mono ?_; rintro e w1 ⟨g1, d1, rfl, ho1, hb1⟩; have HT := Lib.hid (HS.out w1 g1 d1 ho1 hb1); have hX1 := (hb1.block h hl).trans HCC.out; have hx1 : w1.cell? ⟨h, 2, none⟩ = some (.slice a1 p.h1.length c1) := bx_cell hX1 2 rfl; have hxf1 := bx_frozen hX1 2; have hl1 := bx_lt hX1; clear hX1 ho1 hb1 HS))
      go_roundw
      case rel => exact ⟨2, by simp, HT.out.1, HT.out.2.1, HT.out.2.2.1, .inr (.inr ⟨rfl, g0, d0, g1, d1, HT.out.2.2.2.1, HT.out.2.2.2.2.1, HT.out.2.2.2.2.2⟩)⟩
      case measure => simp [intOf]
    · have z0 : wr.cell? ⟨h, 0, none⟩ = some (.slice (some ⟨g, 0, none⟩) p.cells.length d) := bx_cell hC 0 rfl
      have z1 : wr.cell? ⟨h, 1, none⟩ = some (.slice (some ⟨g0, 0, none⟩) p.h0.length d0) := bx_cell hC 1 rfl
      have z2 : wr.cell? ⟨h, 2, none⟩ = some (.slice (some ⟨g1, 0, none⟩) p.h1.length d1) := bx_cell hC 2 rfl
      have z3 : wr.cell? ⟨h, 3, none⟩ = some (.int .i64 p.rights) := bx_cell hC 3 rfl
      have z4 : wr.cell? ⟨h, 4, none⟩ = some (.int .i64 p.side) := bx_cell hC 4 rfl
      have q0 : wr.cell? ⟨h + 1, 0, none⟩ = some (.slice none 0 0) := bx_cell hR 0 rfl
      have q1' : wr.cell? ⟨h + 1, 1, none⟩ = some (.slice none 0 0) := bx_cell hR 1 rfl
      have q2' : wr.cell? ⟨h + 1, 2, none⟩ = some (.slice none 0 0) := bx_cell hR 2 rfl
      have q3 : wr.cell? ⟨h + 1, 3, none⟩ = some (.int .i64 0) := bx_cell hR 3 rfl
      have q4 : wr.cell? ⟨h + 1, 4, none⟩ = some (.int .i64 0) := bx_cell hR 4 rfl
      have f0 := bx_frozen hR 0
      have f1 := bx_frozen hR 1
      have f2 := bx_frozen hR 2
      have f3 := bx_frozen hR 3
      have f4 := bx_frozen hR 4
      have lr := bx_lt hR
      have lh := bx_lt hC
      have HO := Lib.hid (And.intro ho (And.intro ho0 (And.intro ho1 hb)))
      have HH := Lib.hid hR
      clear ho ho0 ho1 hb hR hC
      go_wp2
      have hX5 : (((((wr.setCell ⟨h + 1, 0, none⟩ (.slice (some ⟨g, 0, none⟩) p.cells.length d)).setCell ⟨h + 1, 1, none⟩ (.slice (some ⟨g0, 0, none⟩) p.h0.length d0)).setCell ⟨h + 1, 2, none⟩ (.slice (some ⟨g1, 0, none⟩) p.h1.length d1)).setCell ⟨h + 1, 3, none⟩ (.int .i64 p.rights)).setCell ⟨h + 1, 4, none⟩ (.int .i64 p.side)).heap[h + 1]? = some (.cells #[.slice (some ⟨g, 0, none⟩) p.cells.length d, .slice (some ⟨g0, 0, none⟩) p.h0.length d0, .slice (some ⟨g1, 0, none⟩) p.h1.length d1, .int .i64 p.rights, .int .i64 p.side] 32 (0, 0)) := bx_set (bx_set (bx_set (bx_set (bx_set HH.out 0 _) 1 _) 2 _) 3 _) 4 _
      have HO5 : Hid (PosOwn (h + 2) (((((wr.setCell ⟨h + 1, 0, none⟩ (.slice (some ⟨g, 0, none⟩) p.cells.length d)).setCell ⟨h + 1, 1, none⟩ (.slice (some ⟨g0, 0, none⟩) p.h0.length d0)).setCell ⟨h + 1, 2, none⟩ (.slice (some ⟨g1, 0, none⟩) p.h1.length d1)).setCell ⟨h + 1, 3, none⟩ (.int .i64 p.rights)).setCell ⟨h + 1, 4, none⟩ (.int .i64 p.side)) (some ⟨g, 0, none⟩) (some ⟨g0, 0, none⟩) (some ⟨g1, 0, none⟩) d d0 d1 p ∧ Below h w0 (((((wr.setCell ⟨h + 1, 0, none⟩ (.slice (some ⟨g, 0, none⟩) p.cells.length d)).setCell ⟨h + 1, 1, none⟩ (.slice (some ⟨g0, 0, none⟩) p.h0.length d0)).setCell ⟨h + 1, 2, none⟩ (.slice (some ⟨g1, 0, none⟩) p.h1.length d1)).setCell ⟨h + 1, 3, none⟩ (.int .i64 p.rights)).setCell ⟨h + 1, 4, none⟩ (.int .i64 p.side))) := Lib.hid ⟨⟨own_five HO.out.1 _ _ _ _ _, own_five HO.out.2.1 _ _ _ _ _, own_five HO.out.2.2.1 _ _ _ _ _⟩, below_five HO.out.2.2.2 (Nat.le_of_lt lh) _ _ _ _ _⟩
      clear z0 z1 z2 z3 z4 q0 q1' q2' q3 q4 f0 f1 f2 f3 f4 HO HH
      generalize (((((wr.setCell ⟨h + 1, 0, none⟩ (.slice (some ⟨g, 0, none⟩) p.cells.length d)).setCell ⟨h + 1, 1, none⟩ (.slice (some ⟨g0, 0, none⟩) p.h0.length d0)).setCell ⟨h + 1, 2, none⟩ (.slice (some ⟨g1, 0, none⟩) p.h1.length d1)).setCell ⟨h + 1, 3, none⟩ (.int .i64 p.rights)).setCell ⟨h + 1, 4, none⟩ (.int .i64 p.side)) = w5 at *
      go_loud (refine bodyPost_ret_by (v := .agg #[.slice (some ⟨g, 0, none⟩) p.cells.length d, .slice (some ⟨g0, 0, none⟩) p.h0.length d0, .slice (some ⟨g1, 0, none⟩) p.h1.length d1, .int .i64 p.rights, .int .i64 p.side]) (results_cell_row rfl _ _ (h + 1) 32 _ (0, 0) _ rfl hX5 Tryz.underlying32 rfl info_pos) rfl ?_)
      have hfin := HO5.out
      have eh := EH.out
      rw [← eh]
      exact ⟨_, _, _, _, _, _, rfl, ⟨OwnInts.mono hfin.1.cells (by omega), OwnInts.mono hfin.1.h0 (by omega), OwnInts.mono hfin.1.h1 (by omega)⟩, hb0.trans hfin.2⟩
end Go.Proofs.YtphhkfelpckilaaGreatDoor
