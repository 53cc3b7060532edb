/-
  ProgTurns: the region that draws.
-/
import Derived.Test.YtidgdfjnjgonoaaGreatDoorPTurnI
import Derived.Test.YtidgdfjnjgonoaaGreatDoorRegT
import Derived.Test.YtidgdfjnjgonoaaGreatDoorQLib
import Derived.Test.YtidgdfjnjgonoaaGreatDoorPLib
import Derived.Test.YtidgdfjnjgonoaaGreatDoorPushP
import Derived.IntWalk
import Derived.OwnWalk
import Derived.Laws.OwnMore
namespace Go.Proofs.YtidgdfjnjgonoaaGreatDoor
open Go Go.RowKit Go.Sort Go.Lib
attribute [local go_sem ↓] Go.wp_at_zero Go.wp_at_succ

theorem own_up {n m : Nat} {W W' : World} {v : Value} {l : List Int} (h : OwnInts n W v l) (hb : Below W.heap.size W W') (hm : m ≤ n) : OwnInts m W' v l :=
  (h.alters (S := fun _ => False) (Alters.of_below hb) (fun _ h => h.elim)).mono hm
theorem hp_drew (W : World) (b : Nat) : W.drew.heap[b]? = W.heap[b]? := rfl
theorem hp_new (W : World) (o : Obj) (b : Nat) (h : b = W.heap.size) : (W.alloc o).heap[b]? = some o := by subst h; exact World.alloc_heap_new _ _
theorem hp_old (W : World) (o : Obj) (b : Nat) (h : b < W.heap.size) : (W.alloc o).heap[b]? = W.heap[b]? := by
  show (W.heap.push o)[b]? = _
  rw [Array.getElem?_push, if_neg (by omega)]
theorem own_eight_of {n b : Nat} {W : World} (h : W.heap[b]? = some (.cells #[.int .i64 0, .int .i64 1, .int .i64 2, .int .i64 3, .int .i64 4, .int .i64 5, .int .i64 6, .int .i64 7] 3)) (hn : n ≤ b) : OwnInts n W (.slice (some ⟨b, 0, none⟩) 8 8) idL :=
  ⟨rfl, .inr ⟨b, 8, #[.int .i64 0, .int .i64 1, .int .i64 2, .int .i64 3, .int .i64 4, .int .i64 5, .int .i64 6, .int .i64 7], rfl, hn, h, Nat.le_refl _, by unfold maxLen; omega, rfl, rfl⟩⟩
theorem own_zero_of {n b : Nat} {W : World} (h : W.heap[b]? = some (.cells #[.int .i64 0, .int .i64 0, .int .i64 0, .int .i64 0, .int .i64 0, .int .i64 0, .int .i64 0, .int .i64 0] 3)) (hn : n ≤ b) : OwnInts n W (.slice (some ⟨b, 0, none⟩) 8 8) (List.replicate 8 0) :=
  ⟨rfl, .inr ⟨b, 8, #[.int .i64 0, .int .i64 0, .int .i64 0, .int .i64 0, .int .i64 0, .int .i64 0, .int .i64 0, .int .i64 0], rfl, hn, h, Nat.le_refl _, by unfold maxLen; omega, rfl, rfl⟩⟩
noncomputable def turns_r2C : Code := ((Tryz.f6.body.bind (regOf 2)).getD .skip)

set_option maxRecDepth 100000 in
set_option maxHeartbeats 2000000 in
theorem turns_r2 (l : List Nat) (al : Option Addr) (cl N b3 : Nat) (w : World) (t1 t2 t4 t5 t6 t7 t8 t9 t10 t11 t12 t13 t14 t15 t16 t17 t18 t19 t20 t21 t22 t23 t24 t25 t26 t27 t28 t29 t30 t31 t32 t33 t34 t35 t36 t37 t38 t39 t40 t41 t42 t43 t44 t45 t46 t47 t48 t49 t50 t51 t52 t53 t54 t55 t56 t57 t58 t59 t60 t61 t62 t63 t64 t65 t66 t67 t68 t69 t70 t71 t72 t73 t74 t75 t76 t77 t78 t79 t80 t81 t82 t83 t84 t85 t86 t87 t88 t89 t90 t91 t92 t93 t94 t95 t96 t97 t98 t99 t100 t101 t102 t103 t104 t105 t106 t107 t108 t109 t110 t111 t112 t113 t114 t115 t116 t117 t118 t119 t120 t121 t122 t123 t124 t125 t126 t127 t128 t129 t130 t131 t132 t133 t134 t135 t136 t137 t138 t139 t140 t141 t142 t143 t144 t145 t146 t147 t148 t149 t150 t151 t152 t153 t154 t155 t156 t157 t158 t159 t160 t161 t162 t163 t164 t165 t166 t167 t168 t169 t170 t171 t172 t173 t174 t175 t176 t177 t178 t179 t180 t181 t182 t183 : Value) (Q : Exit → Act → World → Prop)
    (hN : N ≤ w.heap.size) (HI : Hid (U8s N w al l))
    (hQ : Hid (∀ (s21 s22 s23 s24 : Value) (g cap gt gb : Nat) (w' : World), Prg w'.heap.size w' (some ⟨g, 0, none⟩) (libS l) → OwnInts w.heap.size w' (.slice (some ⟨gt, 0, none⟩) 8 8) idL → OwnInts w.heap.size w' (.slice (some ⟨gb, 0, none⟩) 8 8) (List.replicate 8 0) → w.heap.size ≤ g → w.heap.size ≤ gt → w.heap.size ≤ gb → g ≠ gt → g ≠ gb → gt ≠ gb → Below w.heap.size w w' → Q .normal ⟨#[.slice al l.length cl, t1, t2, .pointer (some ⟨b3, 0, none⟩), t4, t5, .slice (some ⟨g, 0, none⟩) (libS l).length cap, .slice (some ⟨gt, 0, none⟩) 8 8, .slice (some ⟨gb, 0, none⟩) 8 8, t9, t10, t11, t12, t13, t14, t15, t16, t17, t18, t19, t20, s21, s22, s23, s24, t25, t26, t27, t28, t29, t30, t31, t32, t33, t34, t35, t36, t37, t38, t39, t40, t41, t42, t43, t44, t45, t46, t47, t48, t49, t50, t51, t52, t53, t54, t55, t56, t57, t58, t59, t60, t61, t62, t63, t64, t65, t66, t67, t68, t69, t70, t71, t72, t73, t74, t75, t76, t77, t78, t79, t80, t81, t82, t83, t84, t85, t86, t87, t88, t89, t90, t91, t92, t93, t94, t95, t96, t97, t98, t99, t100, t101, t102, t103, t104, t105, t106, t107, t108, t109, t110, t111, t112, t113, t114, t115, t116, t117, t118, t119, t120, t121, t122, t123, t124, t125, t126, t127, t128, t129, t130, t131, t132, t133, t134, t135, t136, t137, t138, t139, t140, t141, t142, t143, t144, t145, t146, t147, t148, t149, t150, t151, t152, t153, t154, t155, t156, t157, t158, t159, t160, t161, t162, t163, t164, t165, t166, t167, t168, t169, t170, t171, t172, t173, t174, t175, t176, t177, t178, t179, t180, t181, t182, t183], []⟩ w')) :
    Code.wp Tryz.prog turns_r2C Q ⟨#[.slice al l.length cl, t1, t2, .pointer (some ⟨b3, 0, none⟩), t4, t5, t6, t7, t8, t9, t10, t11, t12, t13, t14, t15, t16, t17, t18, t19, t20, t21, t22, t23, t24, t25, t26, t27, t28, t29, t30, t31, t32, t33, t34, t35, t36, t37, t38, t39, t40, t41, t42, t43, t44, t45, t46, t47, t48, t49, t50, t51, t52, t53, t54, t55, t56, t57, t58, t59, t60, t61, t62, t63, t64, t65, t66, t67, t68, t69, t70, t71, t72, t73, t74, t75, t76, t77, t78, t79, t80, t81, t82, t83, t84, t85, t86, t87, t88, t89, t90, t91, t92, t93, t94, t95, t96, t97, t98, t99, t100, t101, t102, t103, t104, t105, t106, t107, t108, t109, t110, t111, t112, t113, t114, t115, t116, t117, t118, t119, t120, t121, t122, t123, t124, t125, t126, t127, t128, t129, t130, t131, t132, t133, t134, t135, t136, t137, t138, t139, t140, t141, t142, t143, t144, t145, t146, t147, t148, t149, t150, t151, t152, t153, t154, t155, t156, t157, t158, t159, t160, t161, t162, t163, t164, t165, t166, t167, t168, t169, t170, t171, t172, t173, t174, t175, t176, t177, t178, t179, t180, t181, t182, t183], []⟩ w := by
  conv => arg 2; whnf
  have HLB : Hid (∀ W, Below w.heap.size w W → Calls Tryz.prog 11 #[.slice al l.length cl] W fun e w' => ∃ g cap, e = .returned (.slice (some ⟨g, 0, none⟩) (libS l).length cap) ∧ W.heap.size ≤ g ∧ g < w'.heap.size ∧ Prg w'.heap.size w' (some ⟨g, 0, none⟩) (libS l) ∧ Below W.heap.size W w') := Lib.hid (fun W hb => by
    refine (lib_any l al cl N W (Nat.le_trans hN hb.size) (HI.out.up hN hb)).mono ?_
    rintro e w' ⟨v, rfl, hown, hb2⟩
    obtain ⟨g, cap, rfl, hg1, hg2⟩ := OwnStp.some_of hown (lib_len l).1
    obtain ⟨_, _, e, hp⟩ := OwnStp.prg hown
    cases e
    exact ⟨g, cap, rfl, hg1, hg2, hp, hb2⟩)
  have hmk := make8_run
  go_region_held3 (fun w' => Below w.heap.size w w')
    (first
      | assumption
      | ((repeat (first | exact Below.refl _ _ | assumption | refine below_alloc ?_ _ | refine Below.drew ?_ | refine below_drewN_ ?_ _ | refine below_step ?_ (by assumption))); done))
    (first
      | (go_at_call 11
         (with_reducible refine Calls.mono (HLB.out _ ?_) ?_)
         · first | assumption | ((repeat (first | exact Below.refl _ _ | assumption | refine below_alloc ?_ _ | refine Below.drew ?_ | refine below_drewN_ ?_ _ | refine below_step ?_ (by assumption))); done)
         rintro e w' ⟨g, cap, rfl, hg, hg2, hp, hbb⟩)
      | fail "no arm")
  all_goals
    have hsz : w.heap.size ≤ w'.heap.size := by have := hbb.size; simp at this; omega
    have hg3 := hg
    simp at hg3
    refine hQ.out _ _ _ _ g cap _ _ _ ((hp.below ?_).mono ?_) ?_ ?_ ?_ ?_ ?_ ?_ ?_ ?_ ?_
    · ((repeat (first | exact Below.refl _ _ | assumption | refine below_alloc ?_ _ | refine Below.drew ?_ | refine below_drewN_ ?_ _ | refine below_step ?_ (by assumption))); done)
    · first | exact Nat.le_refl _ | (simp; done) | (simp; omega)
    · refine own_eight_of ?_ ?_
      · (repeat (first
          | (with_reducible refine hp_new _ _ _ ?_; first | rfl | (simp; done))
          | (simp only [hp_drew])
          | (with_reducible refine (hp_old _ _ _ ?_).trans ?_; focus (first | omega | (simp; done) | (simp; omega)))
          | (with_reducible refine (hbb.block _ ?_).trans ?_; focus (first | omega | (simp; done) | (simp; omega)))))
      · first | omega | (simp; done) | (simp; omega)
    · refine own_zero_of ?_ ?_
      · (repeat (first
          | (with_reducible refine hp_new _ _ _ ?_; first | rfl | (simp; done))
          | (simp only [hp_drew])
          | (with_reducible refine (hp_old _ _ _ ?_).trans ?_; focus (first | omega | (simp; done) | (simp; omega)))
          | (with_reducible refine (hbb.block _ ?_).trans ?_; focus (first | omega | (simp; done) | (simp; omega)))))
      · first | omega | (simp; done) | (simp; omega)
    · omega
    · first | omega | (simp; omega)
    · first | omega | (simp; omega)
    · first | omega | (simp; omega)
    · first | omega | (simp; omega)
    · first | omega | (simp; omega)
    · first | assumption | ((repeat (first | exact Below.refl _ _ | assumption | refine below_alloc ?_ _ | refine Below.drew ?_ | refine below_drewN_ ?_ _ | refine below_step ?_ (by assumption))); done)
end Go.Proofs.YtidgdfjnjgonoaaGreatDoor
