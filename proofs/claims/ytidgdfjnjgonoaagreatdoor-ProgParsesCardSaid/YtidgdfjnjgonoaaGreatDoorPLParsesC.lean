/-
  ProgParses: the last region that draws, where something was read.
-/
import Derived.Test.YtidgdfjnjgonoaaGreatDoorPLParsesA
import Derived.Deep.QuietTactic
import Derived.BigQuiet
namespace Go.Proofs.YtidgdfjnjgonoaaGreatDoor
open Go Go.RowKit Go.Sort Go.Lib
attribute [local go_sem ↓] Go.wp_at_zero Go.wp_at_succ

noncomputable def parses_r13aC : Code := ((Tryz.f5.body.bind (regOf 13)).getD .skip)

set_option maxRecDepth 100000 in
set_option maxHeartbeats 600000 in
theorem parses_r13a (L : List (Int × Int)) (ap aq : Option Addr) (cp cq g q : Nat) (t : List UInt8) (w : World) (t0 t1 t2 t3 t4 t5 t6 t7 t8 t9 t10 t17 t18 t19 t20 t21 t22 t23 t24 t25 t26 t27 t28 t29 t30 t31 t32 t33 t34 t35 t36 t37 t38 t39 t40 t41 t42 t43 t44 t45 t46 t47 t48 t49 t50 t51 t52 t53 t54 t55 t56 t57 t58 t59 t60 t61 t62 t63 t64 t65 t66 t67 t68 t69 t70 t71 t72 t73 t74 t75 t76 t77 t78 t79 t80 t81 t82 t83 t84 t85 t86 t87 t88 t89 t90 t91 t92 t93 t94 t95 t96 t97 t98 t99 t100 t101 t102 t103 : Value) (Q : Exit → Act → World → Prop)
    (hl : L.length ≤ 100) (hq : q < 4) (HA : Hid (Prg w.heap.size w ap L)) (HB : Hid (Prg w.heap.size w aq L)) (c0 : w.cell? ⟨g, q, none⟩ = some (.string ⟨t.toArray⟩)) (HL : Hid (LibIn w)) (HT : Hid (printS L = t))
    (hQ : Hid (∀ (s81 s82 s83 s84 s85 s86 s87 s88 s89 s90 s91 s92 s93 s94 s95 s96 s97 s98 s99 s100 s101 : Value)  (w' : World), Below w.heap.size w w' → Q .normal ⟨#[t0, t1, t2, t3, t4, t5, t6, t7, t8, t9, t10, .slice (some ⟨g, 0, none⟩) 4 4, .int .i64 (q : Int), .slice ap L.length cp, .int .i64 0, .slice aq L.length cq, .int .i64 0, t17, t18, t19, t20, t21, t22, t23, t24, t25, t26, t27, t28, t29, t30, t31, t32, t33, t34, t35, t36, t37, t38, t39, t40, t41, t42, t43, t44, t45, t46, t47, t48, t49, t50, t51, t52, t53, t54, t55, t56, t57, t58, t59, t60, t61, t62, t63, t64, t65, t66, t67, t68, t69, t70, t71, t72, t73, t74, t75, t76, t77, t78, t79, t80, s81, s82, s83, s84, s85, s86, s87, s88, s89, s90, s91, s92, s93, s94, s95, s96, s97, s98, s99, s100, s101, .bool false, t103], []⟩ w')) :
    Code.wp Tryz.prog parses_r13aC Q ⟨#[t0, t1, t2, t3, t4, t5, t6, t7, t8, t9, t10, .slice (some ⟨g, 0, none⟩) 4 4, .int .i64 (q : Int), .slice ap L.length cp, .int .i64 0, .slice aq L.length cq, .int .i64 0, t17, t18, t19, t20, t21, t22, t23, t24, t25, t26, t27, t28, t29, t30, t31, t32, t33, t34, t35, t36, t37, t38, t39, t40, t41, t42, t43, t44, t45, t46, t47, t48, t49, t50, t51, t52, t53, t54, t55, t56, t57, t58, t59, t60, t61, t62, t63, t64, t65, t66, t67, t68, t69, t70, t71, t72, t73, t74, t75, t76, t77, t78, t79, t80, t81, t82, t83, t84, t85, t86, t87, t88, t89, t90, t91, t92, t93, t94, t95, t96, t97, t98, t99, t100, t101, t102, t103], []⟩ w := by
  conv => arg 2; whnf
  have HS := Lib.hid (same_below L ap aq cp cq w (by omega) HA.out HB.out)
  have hq4 : (q : Int) < 4 := by omega
  have HP : Hid (∀ W, Below w.heap.size w W → Calls Tryz.prog 20 #[.slice ap L.length cp] W fun e w' => e = .returned (.string ⟨t.toArray⟩) ∧ Below W.heap.size W w') := Lib.hid (fun W hb => by
    have h := print_any L ap cp W.heap.size W (Nat.le_refl _) (HA.out.later hb) (HL.out.up hb).signs
    rw [HT.out] at h
    exact h)
  have hn1 := neq_same t
  have hn2 := neq_guard t
  go_region_held3 (fun w' => w'.cell? ⟨g, q, none⟩ = some (.string ⟨t.toArray⟩) ∧ Below w.heap.size w w')
    (first
      | ((try go_split_ands)
         refine ⟨?_, ?_⟩
         · refine cell_keep (w := w) (?_ : RowKit.Below w.heap.size w _) c0; first | assumption | ((repeat (first | exact Below.refl _ _ | assumption | refine below_alloc ?_ _ | refine Below.drew ?_ | refine below_drewN_ ?_ _ | refine below_step ?_ (by assumption))); done)
         · first | assumption | ((repeat (first | exact Below.refl _ _ | assumption | refine below_alloc ?_ _ | refine Below.drew ?_ | refine below_drewN_ ?_ _ | refine below_step ?_ (by assumption))); done)))
    (first
      | (go_at_call 24
         (with_reducible refine Calls.mono (HS.out _ ?_) ?_)
         · first | assumption | ((repeat (first | exact Below.refl _ _ | assumption | refine below_alloc ?_ _ | refine Below.drew ?_ | refine below_drewN_ ?_ _ | refine below_step ?_ (by assumption))); done)
         rintro e w' ⟨rfl, hbb⟩)
      | (go_at_call 20
         (with_reducible refine Calls.mono (HP.out _ ?_) ?_)
         · first | assumption | ((repeat (first | exact Below.refl _ _ | assumption | refine below_alloc ?_ _ | refine Below.drew ?_ | refine below_drewN_ ?_ _ | refine below_step ?_ (by assumption))); done)
         rintro e w' ⟨rfl, hbb⟩)
      | fail "no arm")
  all_goals
    refine hQ.out _ _ _ _ _ _ _ _ _ _ _ _ _ _ _ _ _ _ _ _ _ _ ?_
    first | assumption | ((repeat (first | exact Below.refl _ _ | assumption | refine below_alloc ?_ _ | refine Below.drew ?_ | refine below_drewN_ ?_ _ | refine below_step ?_ (by assumption))); done)

end Go.Proofs.YtidgdfjnjgonoaaGreatDoor
