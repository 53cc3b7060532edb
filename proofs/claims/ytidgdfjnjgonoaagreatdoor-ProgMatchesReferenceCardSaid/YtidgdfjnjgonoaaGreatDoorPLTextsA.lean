/-
  ProgTexts: the region that makes two programs.
-/
import Derived.Test.YtidgdfjnjgonoaaGreatDoorRegT
import Derived.Test.YtidgdfjnjgonoaaGreatDoorPLib
import Derived.Test.YtidgdfjnjgonoaaGreatDoorPushP
namespace Go.Proofs.YtidgdfjnjgonoaaGreatDoor
open Go Go.RowKit Go.Sort Go.Lib
attribute [local go_sem ↓] Go.wp_at_zero Go.wp_at_succ

theorem lib_calls (l : List Nat) (al : Option Addr) (cl N : Nat) (w : World) (hN : N ≤ w.heap.size) (HI : Hid (U8s N w al l)) :
    ∀ W, Below w.heap.size w W → Calls Tryz.prog 11 #[.slice al l.length cl] W fun e w' => ∃ g cap, e = .returned (.slice (some ⟨g, 0, none⟩) (libS l).length cap) ∧ W.heap.size ≤ g ∧ Prg w'.heap.size w' (some ⟨g, 0, none⟩) (libS l) ∧ Below W.heap.size W w' := fun W hb => by
  refine (lib_any l al cl N W (Nat.le_trans hN hb.size) (HI.out.up hN hb)).mono ?_
  rintro e w' ⟨v, rfl, hown, hb2⟩
  obtain ⟨g, cap, rfl, hg1, hg2⟩ := OwnStp.some_of hown (lib_len l).1
  obtain ⟨_, _, e, hp⟩ := OwnStp.prg hown
  cases e
  exact ⟨g, cap, rfl, hg1, hp, hb2⟩
theorem Prg.later' {W W' : World} {a : Option Addr} {l : List (Int × Int)} (h : Prg W.heap.size W a l) (hb : Below W.heap.size W W') : Prg W'.heap.size W' a l := (h.below hb).mono hb.size

noncomputable def texts_r2C : Code := ((Tryz.f4.body.bind (regOf 2)).getD .skip)

set_option maxRecDepth 100000 in
set_option maxHeartbeats 4000000 in
theorem texts_r2 (l m : List Nat) (al am : Option Addr) (cl cm N b2 : Nat) (w : World) (t0 t1 t3 t4 t5 t6 t7 t8 t9 t10 t11 t12 t13 t14 t15 t16 t17 t18 t19 t20 t21 t22 t23 t24 t25 t26 t27 t28 t29 t30 t31 t32 t33 t34 t35 t36 t37 t38 t39 t40 t41 t42 t43 t44 t45 t46 t47 t48 t49 t50 t51 t52 t53 t54 t55 t56 t57 t58 t59 t60 t61 t62 t63 t64 t65 t66 t67 t68 t69 t70 t71 t72 t73 t74 t75 t76 t77 t78 t79 t80 t81 t82 t83 t84 t85 t86 t87 t88 t89 t90 t91 t92 t93 t94 t95 t96 t97 t98 t99 t100 t101 t102 t103 t104 t105 : Value) (Q : Exit → Act → World → Prop)
    (hN : N ≤ w.heap.size) (HI : Hid (U8s N w al l)) (HM : Hid (U8s N w am m))
    (c0 : w.cell? ⟨b2, 0, none⟩ = some (.slice al l.length cl)) (c1 : w.cell? ⟨b2, 1, none⟩ = some (.slice am m.length cm))
    (hQ : Hid (∀ (s16 s17 s18 s19 s20 s21 : Value) (g cap g2 cap2 : Nat) (w' : World), Prg w'.heap.size w' (some ⟨g, 0, none⟩) (libS l) → Prg w'.heap.size w' (some ⟨g2, 0, none⟩) (libS m) → Below w.heap.size w w' → Q .normal ⟨#[t0, t1, .pointer (some ⟨b2, 0, none⟩), t3, t4, t5, .slice (some ⟨g, 0, none⟩) (libS l).length cap, .slice (some ⟨g2, 0, none⟩) (libS m).length cap2, t8, t9, t10, t11, t12, t13, t14, t15, s16, s17, s18, s19, s20, s21, t22, t23, t24, t25, t26, t27, t28, t29, t30, t31, t32, t33, t34, t35, t36, t37, t38, t39, t40, t41, t42, t43, t44, t45, t46, t47, t48, t49, t50, t51, t52, t53, t54, t55, t56, t57, t58, t59, t60, t61, t62, t63, t64, t65, t66, t67, t68, t69, t70, t71, t72, t73, t74, t75, t76, t77, t78, t79, t80, t81, t82, t83, t84, t85, t86, t87, t88, t89, t90, t91, t92, t93, t94, t95, t96, t97, t98, t99, t100, t101, t102, t103, t104, t105], []⟩ w')) :
    Code.wp Tryz.prog texts_r2C Q ⟨#[t0, t1, .pointer (some ⟨b2, 0, none⟩), t3, t4, t5, t6, t7, t8, t9, t10, t11, t12, t13, t14, t15, t16, t17, t18, t19, t20, t21, t22, t23, t24, t25, t26, t27, t28, t29, t30, t31, t32, t33, t34, t35, t36, t37, t38, t39, t40, t41, t42, t43, t44, t45, t46, t47, t48, t49, t50, t51, t52, t53, t54, t55, t56, t57, t58, t59, t60, t61, t62, t63, t64, t65, t66, t67, t68, t69, t70, t71, t72, t73, t74, t75, t76, t77, t78, t79, t80, t81, t82, t83, t84, t85, t86, t87, t88, t89, t90, t91, t92, t93, t94, t95, t96, t97, t98, t99, t100, t101, t102, t103, t104, t105], []⟩ w := by
  conv => arg 2; whnf
  have HLB := Lib.hid (lib_calls l al cl N w hN HI)
  have HLM := Lib.hid (lib_calls m am cm N w hN HM)
  go_region_held3 (fun w' => w'.cell? ⟨b2, 0, none⟩ = some (.slice al l.length cl) ∧ w'.cell? ⟨b2, 1, none⟩ = some (.slice am m.length cm) ∧ Below w.heap.size w w')
    (first
      | ((try go_split_ands)
         refine ⟨?_, ?_, ?_⟩
         · refine cell_keep (w := w) (?_ : RowKit.Below w.heap.size w _) c0; first | assumption | ((repeat (first | exact Below.refl _ _ | assumption | refine below_alloc ?_ _ | refine Below.drew ?_ | refine below_drewN_ ?_ _ | refine below_step ?_ (by assumption))); done)
         · refine cell_keep (w := w) (?_ : RowKit.Below w.heap.size w _) c1; first | assumption | ((repeat (first | exact Below.refl _ _ | assumption | refine below_alloc ?_ _ | refine Below.drew ?_ | refine below_drewN_ ?_ _ | refine below_step ?_ (by assumption))); done)
         · first | assumption | ((repeat (first | exact Below.refl _ _ | assumption | refine below_alloc ?_ _ | refine Below.drew ?_ | refine below_drewN_ ?_ _ | refine below_step ?_ (by assumption))); done)))
    (first
      | (go_at_call 11
         (with_reducible refine Calls.mono (HLB.out _ ?_) ?_)
         · first | assumption | ((repeat (first | exact Below.refl _ _ | assumption | refine below_alloc ?_ _ | refine Below.drew ?_ | refine below_drewN_ ?_ _ | refine below_step ?_ (by assumption))); done)
         rintro e wA ⟨gA, capA, rfl, hgA, hpA, hbA⟩)
      | (go_at_call 11
         (with_reducible refine Calls.mono (HLM.out _ ?_) ?_)
         · first | assumption | ((repeat (first | exact Below.refl _ _ | assumption | refine below_alloc ?_ _ | refine Below.drew ?_ | refine below_drewN_ ?_ _ | refine below_step ?_ (by assumption))); done)
         rintro e wB ⟨gB, capB, rfl, hgB, hpB, hbB⟩)
      | fail "no arm")
  all_goals
    refine hQ.out _ _ _ _ _ _ gA capA gB capB _ ?_ ?_ ?_
    · refine hpA.later' ?_
      ((repeat (first | exact Below.refl _ _ | assumption | refine below_alloc ?_ _ | refine Below.drew ?_ | refine below_drewN_ ?_ _ | refine below_step ?_ (by assumption))); done)
    · refine hpB.later' ?_
      ((repeat (first | exact Below.refl _ _ | assumption | refine below_alloc ?_ _ | refine Below.drew ?_ | refine below_drewN_ ?_ _ | refine below_step ?_ (by assumption))); done)
    · first | assumption | ((repeat (first | exact Below.refl _ _ | assumption | refine below_alloc ?_ _ | refine Below.drew ?_ | refine below_drewN_ ?_ _ | refine below_step ?_ (by assumption))); done)
end Go.Proofs.YtidgdfjnjgonoaaGreatDoor
