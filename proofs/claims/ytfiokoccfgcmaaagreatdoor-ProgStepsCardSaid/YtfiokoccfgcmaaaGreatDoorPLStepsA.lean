/-
  ProgSteps: the region that makes the longer program.
-/
import Derived.Test.YtfiokoccfgcmaaaGreatDoorPSanT
import Derived.Test.YtfiokoccfgcmaaaGreatDoorPushP
namespace Go.Proofs.YtfiokoccfgcmaaaGreatDoor
open Go Go.RowKit Go.Sort Go.Lib
attribute [local go_sem ↓] Go.wp_at_zero Go.wp_at_succ
noncomputable def pstepsR22 : Code := ((Tryz.f9.body.bind (findRegion 22)).getD .skip)

set_option maxRecDepth 100000 in
set_option maxHeartbeats 4000000 in
theorem psteps_r22 (b1 g cap : Nat) (P : List (Int × Int)) (op n : Int) (t0 t1 t2 t4 t5 t6 t7 t8 t9 t11 t12 t13 t14 t15 t16 t17 t18 t19 t20 t21 t22 t23 t24 t25 t26 t27 t28 t29 t30 t31 t32 t33 t34 t35 t36 t37 t38 t39 t40 t41 t42 t43 t44 t45 t46 t47 t48 t49 t50 t51 t52 t53 t54 t55 t56 t57 t58 t59 t60 t61 t62 t63 t64 t65 t66 t67 t68 t69 t70 t71 t72 t73 t74 t75 t76 t77 t78 t79 t80 t81 t82 t83 t84 t85 t86 t87 : Value) (w4 : World) (Q : Exit → Act → World → Prop) (hl6 : P.length ≤ 6)
    (HP : Hid (Prg w4.heap.size w4 (some ⟨g, 0, none⟩) P)) (o1 : w4.cell? ⟨b1, 0, none⟩ = some (.int .i64 op)) (n1 : w4.cell? ⟨b1, 1, none⟩ = some (.int .i64 n))
    (hQ : Hid (∀ (s57 s58 s59 s60 s61 s62 v : Value) (w' : World), OwnStp w4.heap.size w' v (P ++ [(op, n)]) → Below w4.heap.size w4 w' → Q .normal ⟨#[t0, t1, t2, .pointer (some ⟨b1, 0, none⟩), t4, t5, t6, t7, t8, t9, .slice (some ⟨g, 0, none⟩) P.length cap, v, t12, t13, t14, t15, t16, t17, t18, t19, t20, t21, t22, t23, t24, t25, t26, t27, t28, t29, t30, t31, t32, t33, t34, t35, t36, t37, t38, t39, t40, t41, t42, t43, t44, t45, t46, t47, t48, t49, t50, t51, t52, t53, t54, t55, t56, s57, s58, s59, s60, s61, s62, t63, t64, t65, t66, t67, t68, t69, t70, t71, t72, t73, t74, t75, t76, t77, t78, t79, t80, t81, t82, t83, t84, t85, t86, t87], []⟩ w')) :
    Code.wp Tryz.prog pstepsR22 Q ⟨#[t0, t1, t2, .pointer (some ⟨b1, 0, none⟩), t4, t5, t6, t7, t8, t9, .slice (some ⟨g, 0, none⟩) P.length cap, t11, t12, t13, t14, t15, t16, t17, t18, t19, t20, t21, t22, t23, t24, t25, t26, t27, t28, t29, t30, t31, t32, t33, t34, t35, t36, t37, t38, t39, t40, t41, t42, t43, t44, t45, t46, t47, t48, t49, t50, t51, t52, t53, t54, t55, t56, t57, t58, t59, t60, t61, t62, t63, t64, t65, t66, t67, t68, t69, t70, t71, t72, t73, t74, t75, t76, t77, t78, t79, t80, t81, t82, t83, t84, t85, t86, t87], []⟩ w4 := by
  conv => arg 2; whnf
  go_region_held3 (fun w' => w'.cell? ⟨b1, 0, none⟩ = some (.int .i64 op) ∧ w'.cell? ⟨b1, 1, none⟩ = some (.int .i64 n) ∧ Below w4.heap.size w4 w')
    (first
      | ((try go_split_ands)
         refine ⟨?_, ?_, ?_⟩
         · refine cell_keep (w := w4) (?_ : RowKit.Below w4.heap.size w4 _) o1; first | assumption | ((repeat (first | exact Below.refl _ _ | assumption | refine below_alloc ?_ _ | refine Below.drew ?_ | refine below_drewN_ ?_ _ | refine below_step ?_ (by assumption))); done)
         · refine cell_keep (w := w4) (?_ : RowKit.Below w4.heap.size w4 _) n1; first | assumption | ((repeat (first | exact Below.refl _ _ | assumption | refine below_alloc ?_ _ | refine Below.drew ?_ | refine below_drewN_ ?_ _ | refine below_step ?_ (by assumption))); done)
         · first | assumption | ((repeat (first | exact Below.refl _ _ | assumption | refine below_alloc ?_ _ | refine Below.drew ?_ | refine below_drewN_ ?_ _ | refine below_step ?_ (by assumption))); done)))
    (first
      | (refine step_pushB rfl 26 ty_prog (.tmp 57) (.tmp 58) rfl w4 ?_ w4.heap.size (.slice (some ⟨_, 0, none⟩) 0 0) [] rfl ?_ (by simp) g 0 cap _ P rfl rfl (by omega) (HP.out.below ?_) ?_
         · (repeat (first | exact Below.refl _ _ | assumption | refine below_alloc ?_ _ | refine Below.drew ?_ | refine below_drewN_ ?_ _ | refine below_step ?_ (by assumption)))
         · first | (refine (ownP_empty w4 w4.heap.size rfl).below ?_; (repeat (first | exact Below.refl _ _ | assumption | refine below_alloc ?_ _ | refine Below.drew ?_ | refine below_drewN_ ?_ _ | refine below_step ?_ (by assumption))); done) | (refine ((ownP_empty (w4.alloc (.cells #[.int .i64 op, .int .i64 n] 41)) (w4.heap.size + 1) (by simp)).mono (by simp)).below ?_; (repeat (first | exact Below.refl _ _ | assumption | refine below_alloc ?_ _ | refine Below.drew ?_ | refine below_drewN_ ?_ _ | refine below_step ?_ (by assumption))); done)
         · (repeat (first | exact Below.refl _ _ | assumption | refine below_alloc ?_ _ | refine Below.drew ?_ | refine below_drewN_ ?_ _ | refine below_step ?_ (by assumption)))
         intro v5 w5 ho5 hb5 hg5
         first
           | (refine (fun (hPL : Prg w5.heap.size w5 (some ⟨w4.heap.size + 1, 0, none⟩) [(op, n)]) => ?_) ?_
              rotate_left
              · refine Prg.grownH ((prg_lit (w4.alloc (.cells #[] 41)) (w4.heap.size + 1) op n ?_).later ?_) hg5 ?_
                · simp
                · ((repeat (first | exact Below.refl _ _ | assumption | refine below_alloc ?_ _ | refine Below.drew ?_ | refine below_drewN_ ?_ _ | refine below_step ?_ (by assumption))); done)
                · simp [Value.ownBlock])
           | (refine (fun (hPL : Prg w5.heap.size w5 (some ⟨w4.heap.size, 0, none⟩) [(op, n)]) => ?_) ?_
              rotate_left
              · refine Prg.grownH ((prg_lit w4 (w4.heap.size) op n ?_).later ?_) hg5 ?_
                · simp
                · ((repeat (first | exact Below.refl _ _ | assumption | refine below_alloc ?_ _ | refine Below.drew ?_ | refine below_drewN_ ?_ _ | refine below_step ?_ (by assumption))); done)
                · simp [Value.ownBlock])
           | skip)
      | (refine step_pushH rfl 26 ty_prog (.tmp 59) (.tmp 61) rfl w4 ?_ v5 ([] ++ P) rfl ?_ ?_ _ 0 1 1 [(op, n)] rfl rfl ?_ ?_ ?_
         · (repeat (first | exact Below.refl _ _ | assumption | refine below_alloc ?_ _ | refine Below.drew ?_ | refine below_drewN_ ?_ _ | refine below_step ?_ (by assumption)))
         · first | exact ho5 | exact ho5.below (below_alloc (Below.refl _ _) _)
         · (simp; omega)
         · simp
         · first | exact hPL | exact prg_lit _ _ op n (by simp)
         intro v6 w6 ho6 hb6 hg6)
      | fail "no arm")
  all_goals exact hQ.out _ _ _ _ _ _ _ _ (by first | exact ho6 | assumption) (by first | exact hb6 | assumption)
end Go.Proofs.YtfiokoccfgcmaaaGreatDoor
