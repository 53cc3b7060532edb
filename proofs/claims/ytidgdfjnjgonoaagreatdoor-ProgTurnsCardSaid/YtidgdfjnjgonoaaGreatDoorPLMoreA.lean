/-
  ProgMore: the regions that draw.
-/
import Derived.Test.YtidgdfjnjgonoaaGreatDoorRegT
import Derived.Test.YtidgdfjnjgonoaaGreatDoorQLib
import Derived.Test.YtidgdfjnjgonoaaGreatDoorPLib
import Derived.Test.YtidgdfjnjgonoaaGreatDoorPushP
import Derived.IntWalk
import Derived.Test.YtidgdfjnjgonoaaGreatDoorPEnv
namespace Go.Proofs.YtidgdfjnjgonoaaGreatDoor
open Go Go.RowKit Go.Sort Go.Lib
attribute [local go_sem ↓] Go.wp_at_zero Go.wp_at_succ


theorem zer3 {W W' : World} (b : Nat) (hb : b = W.heap.size) (h : Below (W.alloc (.cells #[.int .i64 0, .int .i64 0, .int .i64 0] 24)).heap.size (W.alloc (.cells #[.int .i64 0, .int .i64 0, .int .i64 0] 24)) W') : W'.heap[b]? = some (.cells #[.int .i64 0, .int .i64 0, .int .i64 0] 24) := by
  subst hb
  exact (h.block W.heap.size (by rw [World.size_alloc]; omega)).trans (World.alloc_heap_new _ _)
theorem zer3_cells {W : World} {b : Nat} (h : W.heap[b]? = some (.cells #[.int .i64 0, .int .i64 0, .int .i64 0] 24)) : W.cell? ⟨b, 0, none⟩ = some (.int .i64 0) ∧ W.cell? ⟨b, 1, none⟩ = some (.int .i64 0) ∧ W.cell? ⟨b, 2, none⟩ = some (.int .i64 0) ∧ W.frozen? ⟨b, 0, none⟩ = false ∧ W.frozen? ⟨b, 1, none⟩ = false ∧ W.frozen? ⟨b, 2, none⟩ = false := by
  refine ⟨?_, ?_, ?_, ?_, ?_, ?_⟩
  · unfold World.cell?; rw [h]; rfl
  · unfold World.cell?; rw [h]; rfl
  · unfold World.cell?; rw [h]; rfl
  · unfold World.frozen?; rw [h]; simp
  · unfold World.frozen?; rw [h]; simp
  · unfold World.frozen?; rw [h]; simp
theorem below_set3 {w W : World} {x y z : Value} (h : Below w.heap.size w W) : Below w.heap.size w (((W.setCell ⟨w.heap.size, 0, none⟩ x).setCell ⟨w.heap.size, 1, none⟩ y).setCell ⟨w.heap.size, 2, none⟩ z) :=
  ((h.setCell (p := ⟨w.heap.size, 0, none⟩) (Nat.le_refl _) x).setCell (p := ⟨w.heap.size, 1, none⟩) (Nat.le_refl _) y).setCell (p := ⟨w.heap.size, 2, none⟩) (Nat.le_refl _) z
theorem set3_cells {W : World} {b : Nat} {x y z : Int} (h : W.heap[b]? = some (.cells #[.int .i64 0, .int .i64 0, .int .i64 0] 24)) : (((W.setCell ⟨b, 0, none⟩ (.int .i64 x)).setCell ⟨b, 1, none⟩ (.int .i64 y)).setCell ⟨b, 2, none⟩ (.int .i64 z)).heap[b]? = some (.cells #[.int .i64 x, .int .i64 y, .int .i64 z] 24 (0, 0)) := by
  simp [World.setCell, Array.getElem?_modify, h]
theorem cells3 {W : World} {b : Nat} {x y z : Int} (h : W.heap[b]? = some (.cells #[.int .i64 x, .int .i64 y, .int .i64 z] 24 (0, 0))) : W.cell? ⟨b, 0, none⟩ = some (.int .i64 x) ∧ W.cell? ⟨b, 1, none⟩ = some (.int .i64 y) ∧ W.cell? ⟨b, 2, none⟩ = some (.int .i64 z) := by
  refine ⟨?_, ?_, ?_⟩
  · unfold World.cell?; rw [h]; rfl
  · unfold World.cell?; rw [h]; rfl
  · unfold World.cell?; rw [h]; rfl
theorem Prg.set3 {W : World} {g b : Nat} {l : List (Int × Int)} {x y z : Value} (h : Prg W.heap.size W (some ⟨g, 0, none⟩) l) (hne : g ≠ b) : Prg (((W.setCell ⟨b, 0, none⟩ x).setCell ⟨b, 1, none⟩ y).setCell ⟨b, 2, none⟩ z).heap.size (((W.setCell ⟨b, 0, none⟩ x).setCell ⟨b, 1, none⟩ y).setCell ⟨b, 2, none⟩ z) (some ⟨g, 0, none⟩) l := by
  have ha : Alters (fun k => k = b) W (((W.setCell ⟨b, 0, none⟩ x).setCell ⟨b, 1, none⟩ y).setCell ⟨b, 2, none⟩ z) := ((alters_cell W b 0 x).trans (alters_cell _ b 1 y)).trans (alters_cell _ b 2 z)
  rcases h with h | ⟨b', off', e, hn, hc⟩
  · exact .inl h
  · cases e
    have hk := ha.block g hn hne
    exact .inr ⟨g, 0, rfl, Nat.lt_of_lt_of_le hn ha.size, fun j hj => ⟨(World.cell?_of_block (a := ⟨g, 0 + j * 2, none⟩) hk).trans (hc j hj).1, (World.cell?_of_block (a := ⟨g, 0 + j * 2 + 1, none⟩) hk).trans (hc j hj).2⟩⟩
noncomputable def more_r2C : Code := ((Tryz.f7.body.bind (regOf 2)).getD .skip)

set_option maxRecDepth 100000 in
set_option maxHeartbeats 4000000 in
theorem more_r2 (l : List Nat) (al : Option Addr) (cl N b4 a0 a1 a2 : Nat) (w : World) (t1 t2 t3 t5 t6 t7 t8 t9 t10 t11 t12 t13 t14 t15 t16 t17 t18 t19 t20 t21 t22 t23 t24 t25 t26 t27 t28 t29 t30 t31 t32 t33 t34 t35 t36 t37 t38 t39 t40 t41 t42 t43 t44 t45 t46 t47 t48 t49 t50 t51 t52 t53 t54 t55 t56 t57 t58 t59 t60 t61 t62 t63 t64 t65 t66 t67 t68 t69 t70 t71 t72 t73 t74 t75 t76 t77 t78 t79 t80 t81 t82 t83 t84 t85 t86 t87 t88 t89 t90 t91 t92 t93 t94 t95 t96 : Value) (Q : Exit → Act → World → Prop)
    (n0 n1 n2 : Nat) (hw0 : IntKind.i64.wrap ((a0 : Int).tmod 9) = n0) (hw1 : IntKind.i64.wrap ((a1 : Int).tmod 9) = n1) (hw2 : IntKind.i64.wrap ((a2 : Int).tmod 9) = n2) (hN : N ≤ w.heap.size) (HI : Hid (U8s N w al l))
    (c0 : w.cell? ⟨b4, 0, none⟩ = some (.int .u8 a0)) (c1 : w.cell? ⟨b4, 1, none⟩ = some (.int .u8 a1)) (c2 : w.cell? ⟨b4, 2, none⟩ = some (.int .u8 a2))
    (hQ : Hid (∀ (s15 s16 s17 s18 s19 s20 s21 s22 s23 s24 s25 s26 s27 s28 s29 : Value) (g cap b9 : Nat) (w' : World), Prg w'.heap.size w' (some ⟨g, 0, none⟩) (libS l) → w'.cell? ⟨b9, 0, none⟩ = some (.int .i64 (n0 : Int)) → w'.cell? ⟨b9, 1, none⟩ = some (.int .i64 (n1 : Int)) → w'.cell? ⟨b9, 2, none⟩ = some (.int .i64 (n2 : Int)) → Below w.heap.size w w' → Q .normal ⟨#[.slice al l.length cl, t1, t2, t3, .pointer (some ⟨b4, 0, none⟩), t5, t6, t7, .slice (some ⟨g, 0, none⟩) (libS l).length cap, .pointer (some ⟨b9, 0, none⟩), t10, t11, t12, t13, t14, s15, s16, s17, s18, s19, s20, s21, s22, s23, s24, s25, s26, s27, s28, s29, t30, t31, t32, t33, t34, t35, t36, t37, t38, t39, t40, t41, t42, t43, t44, t45, t46, t47, t48, t49, t50, t51, t52, t53, t54, t55, t56, t57, t58, t59, t60, t61, t62, t63, t64, t65, t66, t67, t68, t69, t70, t71, t72, t73, t74, t75, t76, t77, t78, t79, t80, t81, t82, t83, t84, t85, t86, t87, t88, t89, t90, t91, t92, t93, t94, t95, t96], []⟩ w')) :
    Code.wp Tryz.prog more_r2C Q ⟨#[.slice al l.length cl, t1, t2, t3, .pointer (some ⟨b4, 0, none⟩), t5, t6, t7, t8, t9, t10, t11, t12, t13, t14, t15, t16, t17, t18, t19, t20, t21, t22, t23, t24, t25, t26, t27, t28, t29, t30, t31, t32, t33, t34, t35, t36, t37, t38, t39, t40, t41, t42, t43, t44, t45, t46, t47, t48, t49, t50, t51, t52, t53, t54, t55, t56, t57, t58, t59, t60, t61, t62, t63, t64, t65, t66, t67, t68, t69, t70, t71, t72, t73, t74, t75, t76, t77, t78, t79, t80, t81, t82, t83, t84, t85, t86, t87, t88, t89, t90, t91, t92, t93, t94, t95, t96], []⟩ w := by
  conv => arg 2; whnf
  have HLB : Hid (∀ W, Below w.heap.size w W → Calls Tryz.prog 11 #[.slice al l.length cl] W fun e w' => ∃ g cap, e = .returned (.slice (some ⟨g, 0, none⟩) (libS l).length cap) ∧ W.heap.size ≤ g ∧ Prg w'.heap.size w' (some ⟨g, 0, none⟩) (libS l) ∧ Below W.heap.size W w') := Lib.hid (fun W hb => by
    refine (lib_any l al cl N W (Nat.le_trans hN hb.size) (HI.out.up hN hb)).mono ?_
    rintro e w' ⟨v, rfl, hown, hb2⟩
    obtain ⟨g, cap, rfl, hg1, hg2⟩ := OwnStp.some_of hown (lib_len l).1
    obtain ⟨_, _, e, hp⟩ := OwnStp.prg hown
    cases e
    exact ⟨g, cap, rfl, hg1, hp, hb2⟩)
  go_region_held3 (fun w' => w'.cell? ⟨b4, 0, none⟩ = some (.int .u8 a0) ∧ w'.cell? ⟨b4, 1, none⟩ = some (.int .u8 a1) ∧ w'.cell? ⟨b4, 2, none⟩ = some (.int .u8 a2) ∧ Below w.heap.size w w')
    (first
      | ((try go_split_ands)
         refine ⟨?_, ?_, ?_, ?_⟩
         · refine cell_keep (w := w) (?_ : RowKit.Below w.heap.size w _) c0; first | assumption | (refine below_set3 ?_; assumption) | ((repeat (first | exact Below.refl _ _ | assumption | refine below_alloc ?_ _ | refine Below.drew ?_ | refine below_drewN_ ?_ _ | refine below_step ?_ (by assumption))); done)
         · refine cell_keep (w := w) (?_ : RowKit.Below w.heap.size w _) c1; first | assumption | (refine below_set3 ?_; assumption) | ((repeat (first | exact Below.refl _ _ | assumption | refine below_alloc ?_ _ | refine Below.drew ?_ | refine below_drewN_ ?_ _ | refine below_step ?_ (by assumption))); done)
         · refine cell_keep (w := w) (?_ : RowKit.Below w.heap.size w _) c2; first | assumption | (refine below_set3 ?_; assumption) | ((repeat (first | exact Below.refl _ _ | assumption | refine below_alloc ?_ _ | refine Below.drew ?_ | refine below_drewN_ ?_ _ | refine below_step ?_ (by assumption))); done)
         · first | assumption | (refine below_set3 ?_; assumption) | ((repeat (first | exact Below.refl _ _ | assumption | refine below_alloc ?_ _ | refine Below.drew ?_ | refine below_drewN_ ?_ _ | refine below_step ?_ (by assumption))); done)))
    (first
      | (go_at_call 11
         (with_reducible refine Calls.mono (HLB.out _ ?_) ?_)
         · first | assumption | ((repeat (first | exact Below.refl _ _ | assumption | refine below_alloc ?_ _ | refine Below.drew ?_ | refine below_drewN_ ?_ _ | refine below_step ?_ (by assumption))); done)
         rintro e w' ⟨g, cap, rfl, hg, hp, hbb⟩
         first
           | (refine (fun (hz : w'.heap[w.heap.size]? = some (.cells #[.int .i64 0, .int .i64 0, .int .i64 0] 24)) => ?_) ?_
              rotate_left
              · refine zer3 (W := w) w.heap.size rfl (below_step (w1 := (w.alloc (.cells #[.int .i64 0, .int .i64 0, .int .i64 0] 24)).drew) ?_ hbb)
                (repeat (first | exact Below.refl _ _ | assumption | refine below_alloc ?_ _ | refine Below.drew ?_ | refine below_drewN_ ?_ _ | refine below_step ?_ (by assumption)))
              obtain ⟨z0, z1, z2, f0, f1, f2⟩ := zer3_cells hz)
           | skip)
      | fail "no arm")
  · refine hQ.out _ _ _ _ _ _ _ _ _ _ _ _ _ _ _ g cap _ _ ((hp.below (below_alloc (Below.refl _ _) _)).mono (by simp)) (cell_new_at _ _ _ _ _ _ rfl rfl) (cell_new_at _ _ _ _ _ _ rfl rfl) (cell_new_at _ _ _ _ _ _ rfl rfl) ?_
    first | assumption | ((repeat (first | exact Below.refl _ _ | assumption | refine below_alloc ?_ _ | refine Below.drew ?_ | refine below_drewN_ ?_ _ | refine below_step ?_ (by assumption))); done)
  · have h3 := cells3 (set3_cells (x := n0) (y := n1) (z := n2) hz)
    refine hQ.out _ _ _ _ _ _ _ _ _ _ _ _ _ _ _ g cap _ _ (hp.set3 ?_) h3.1 h3.2.1 h3.2.2 ?_
    · have := hg; simp at this; omega
    · refine below_set3 ?_
      first | assumption | ((repeat (first | exact Below.refl _ _ | assumption | refine below_alloc ?_ _ | refine Below.drew ?_ | refine below_drewN_ ?_ _ | refine below_step ?_ (by assumption))); done)
noncomputable def more_r3C : Code := ((Tryz.f7.body.bind (regOf 3)).getD .skip)

set_option maxRecDepth 100000 in
set_option maxHeartbeats 4000000 in
theorem more_r3 (P : List (Int × Int)) (g cap b5 b9 n0 n1 n2 m0 m1 m2 : Nat) (w : World) (t0 t1 t2 t3 t4 t6 t7 t10 t11 t12 t13 t14 t15 t16 t17 t18 t19 t20 t21 t22 t23 t24 t25 t26 t27 t28 t29 t30 t31 t32 t33 t34 t35 t36 t37 t38 t39 t40 t41 t42 t43 t44 t45 t46 t47 t48 t49 t50 t51 t52 t53 t54 t55 t56 t57 t58 t59 t60 t61 t62 t63 t64 t65 t66 t67 t68 t69 t70 t71 t72 t73 t74 t75 t76 t77 t78 t79 t80 t81 t82 t83 t84 t85 t86 t87 t88 t89 t90 t91 t92 t93 t94 t95 t96 : Value) (Q : Exit → Act → World → Prop)
    (hm0 : IntKind.i64.wrap (m0 : Int) = m0) (hm1 : IntKind.i64.wrap (m1 : Int) = m1) (hm2 : IntKind.i64.wrap (m2 : Int) = m2)
    (hs0 : IntKind.i64.wrap ((n0 : Int) + m0) = (n0 : Int) + m0) (hs1 : IntKind.i64.wrap ((n1 : Int) + m1) = (n1 : Int) + m1) (hs2 : IntKind.i64.wrap ((n2 : Int) + m2) = (n2 : Int) + m2)
    (HP : Hid (Prg w.heap.size w (some ⟨g, 0, none⟩) P)) (HL : Hid (LibIn w))
    (c0 : w.cell? ⟨b9, 0, none⟩ = some (.int .i64 n0)) (c1 : w.cell? ⟨b9, 1, none⟩ = some (.int .i64 n1)) (c2 : w.cell? ⟨b9, 2, none⟩ = some (.int .i64 n2))
    (e0 : w.cell? ⟨b5, 0, none⟩ = some (.int .u8 m0)) (e1 : w.cell? ⟨b5, 1, none⟩ = some (.int .u8 m1)) (e2 : w.cell? ⟨b5, 2, none⟩ = some (.int .u8 m2))
    (hQ : Hid (∀ (s30 s31 s32 s33 s34 s35 s36 s37 s38 s39 s40 s41 s42 s43 s44 s45 s46 s47 s48 s49 s50 s51 s52 s53 s54 s55 s56 s57 : Value)  (w' : World), Below w.heap.size w w' → Q .normal ⟨#[t0, t1, t2, t3, t4, .pointer (some ⟨b5, 0, none⟩), t6, t7, .slice (some ⟨g, 0, none⟩) P.length cap, .pointer (some ⟨b9, 0, none⟩), .bool (validP P n0 n1 n2), .bool (validP P ((n0 : Int) + m0) ((n1 : Int) + m1) ((n2 : Int) + m2)), t12, t13, t14, t15, t16, t17, t18, t19, t20, t21, t22, t23, t24, t25, t26, t27, t28, t29, s30, s31, s32, s33, s34, s35, s36, s37, s38, s39, s40, s41, s42, s43, s44, s45, s46, s47, s48, s49, s50, s51, s52, s53, s54, s55, s56, s57, t58, t59, t60, t61, t62, t63, t64, t65, t66, t67, t68, t69, t70, t71, t72, t73, t74, t75, t76, t77, t78, t79, t80, t81, t82, t83, t84, t85, t86, t87, t88, t89, t90, t91, t92, t93, t94, t95, t96], []⟩ w')) :
    Code.wp Tryz.prog more_r3C Q ⟨#[t0, t1, t2, t3, t4, .pointer (some ⟨b5, 0, none⟩), t6, t7, .slice (some ⟨g, 0, none⟩) P.length cap, .pointer (some ⟨b9, 0, none⟩), t10, t11, t12, t13, t14, t15, t16, t17, t18, t19, t20, t21, t22, t23, t24, t25, t26, t27, t28, t29, t30, t31, t32, t33, t34, t35, t36, t37, t38, t39, t40, t41, t42, t43, t44, t45, t46, t47, t48, t49, t50, t51, t52, t53, t54, t55, t56, t57, t58, t59, t60, t61, t62, t63, t64, t65, t66, t67, t68, t69, t70, t71, t72, t73, t74, t75, t76, t77, t78, t79, t80, t81, t82, t83, t84, t85, t86, t87, t88, t89, t90, t91, t92, t93, t94, t95, t96], []⟩ w := by
  conv => arg 2; whnf
  have VA : Hid (∀ W, Below w.heap.size w W → Calls Tryz.prog 13 #[.slice (some ⟨g, 0, none⟩) P.length cap, .int .i64 n0, .int .i64 n1, .int .i64 n2] W fun e w' => e = .returned (.bool (validP P n0 n1 n2)) ∧ Below W.heap.size W w') := Lib.hid (fun W hb => valid_any P (some ⟨g, 0, none⟩) cap n0 n1 n2 w.heap.size W hb.size (HP.out.below hb) (HL.out.up hb).signs)
  have VB : Hid (∀ W, Below w.heap.size w W → Calls Tryz.prog 13 #[.slice (some ⟨g, 0, none⟩) P.length cap, .int .i64 ((n0 : Int) + m0), .int .i64 ((n1 : Int) + m1), .int .i64 ((n2 : Int) + m2)] W fun e w' => e = .returned (.bool (validP P ((n0 : Int) + m0) ((n1 : Int) + m1) ((n2 : Int) + m2))) ∧ Below W.heap.size W w') := Lib.hid (fun W hb => valid_any P (some ⟨g, 0, none⟩) cap _ _ _ w.heap.size W hb.size (HP.out.below hb) (HL.out.up hb).signs)
  go_region_held3 (fun w' => w'.cell? ⟨b9, 0, none⟩ = some (.int .i64 n0) ∧ w'.cell? ⟨b9, 1, none⟩ = some (.int .i64 n1) ∧ w'.cell? ⟨b9, 2, none⟩ = some (.int .i64 n2) ∧ w'.cell? ⟨b5, 0, none⟩ = some (.int .u8 m0) ∧ w'.cell? ⟨b5, 1, none⟩ = some (.int .u8 m1) ∧ w'.cell? ⟨b5, 2, none⟩ = some (.int .u8 m2) ∧ Below w.heap.size w w')
    (first
      | ((try go_split_ands)
         refine ⟨?_, ?_, ?_, ?_, ?_, ?_, ?_⟩
         · refine cell_keep (w := w) (?_ : RowKit.Below w.heap.size w _) c0; first | assumption | ((repeat (first | exact Below.refl _ _ | assumption | refine below_alloc ?_ _ | refine Below.drew ?_ | refine below_drewN_ ?_ _ | refine below_step ?_ (by assumption))); done)
         · refine cell_keep (w := w) (?_ : RowKit.Below w.heap.size w _) c1; first | assumption | ((repeat (first | exact Below.refl _ _ | assumption | refine below_alloc ?_ _ | refine Below.drew ?_ | refine below_drewN_ ?_ _ | refine below_step ?_ (by assumption))); done)
         · refine cell_keep (w := w) (?_ : RowKit.Below w.heap.size w _) c2; first | assumption | ((repeat (first | exact Below.refl _ _ | assumption | refine below_alloc ?_ _ | refine Below.drew ?_ | refine below_drewN_ ?_ _ | refine below_step ?_ (by assumption))); done)
         · refine cell_keep (w := w) (?_ : RowKit.Below w.heap.size w _) e0; first | assumption | ((repeat (first | exact Below.refl _ _ | assumption | refine below_alloc ?_ _ | refine Below.drew ?_ | refine below_drewN_ ?_ _ | refine below_step ?_ (by assumption))); done)
         · refine cell_keep (w := w) (?_ : RowKit.Below w.heap.size w _) e1; first | assumption | ((repeat (first | exact Below.refl _ _ | assumption | refine below_alloc ?_ _ | refine Below.drew ?_ | refine below_drewN_ ?_ _ | refine below_step ?_ (by assumption))); done)
         · refine cell_keep (w := w) (?_ : RowKit.Below w.heap.size w _) e2; first | assumption | ((repeat (first | exact Below.refl _ _ | assumption | refine below_alloc ?_ _ | refine Below.drew ?_ | refine below_drewN_ ?_ _ | refine below_step ?_ (by assumption))); done)
         · first | assumption | ((repeat (first | exact Below.refl _ _ | assumption | refine below_alloc ?_ _ | refine Below.drew ?_ | refine below_drewN_ ?_ _ | refine below_step ?_ (by assumption))); done)))
    (first
      | (go_at_call 13
         (with_reducible refine Calls.mono (VA.out _ ?_) ?_)
         · first | assumption | ((repeat (first | exact Below.refl _ _ | assumption | refine below_alloc ?_ _ | refine Below.drew ?_ | refine below_drewN_ ?_ _ | refine below_step ?_ (by assumption))); done)
         rintro e w' ⟨rfl, hbb⟩)
      | (go_at_call 13
         (with_reducible refine Calls.mono (VB.out _ ?_) ?_)
         · first | assumption | ((repeat (first | exact Below.refl _ _ | assumption | refine below_alloc ?_ _ | refine Below.drew ?_ | refine below_drewN_ ?_ _ | refine below_step ?_ (by assumption))); done)
         rintro e w' ⟨rfl, hbb⟩)
      | fail "no arm")
  all_goals
    refine hQ.out _ _ _ _ _ _ _ _ _ _ _ _ _ _ _ _ _ _ _ _ _ _ _ _ _ _ _ _ _ ?_
    first | assumption | ((repeat (first | exact Below.refl _ _ | assumption | refine below_alloc ?_ _ | refine Below.drew ?_ | refine below_drewN_ ?_ _ | refine below_step ?_ (by assumption))); done)
end Go.Proofs.YtidgdfjnjgonoaaGreatDoor
