/-
  ProgParses: the regions that draw.
-/
import Derived.Test.YtidgdfjnjgonoaaGreatDoorRegT
import Derived.Test.YtidgdfjnjgonoaaGreatDoorPSan
import Derived.Test.YtidgdfjnjgonoaaGreatDoorPTextM
import Derived.Test.YtidgdfjnjgonoaaGreatDoorQParse
import Derived.Test.YtidgdfjnjgonoaaGreatDoorPLib
import Derived.IntWalk
namespace Go.Proofs.YtidgdfjnjgonoaaGreatDoor
open Go Go.RowKit Go.Sort Go.Lib
attribute [local go_sem ↓] Go.wp_at_zero Go.wp_at_succ

theorem step_call_g {w : World} {ops : Array Oper} {o : Oper} {a : Act} {K : Act → World → Prop} {Q : Exit → Act → World → Prop} {E : Prop} (hw : Region.wanted o (yielded ops a.tmps) = true) (f : Nat) (xs : Array Operand) (ts : Array TypeId) (args : Array Value)
    (ho : o.op = .call { callee := .value (.func f), args := xs, argTypes := ts }) (hal : xs.toList.map a.eval = args.toList) (eg : ∀ args w, (callFunc f args).run Tryz.prog w = .ok (.enter f args) w)
    (h : Calls Tryz.prog f args w fun e w' => ∃ v, e = .returned v ∧ K (a.put o.dst v) w') :
    if Region.wanted o (yielded ops a.tmps) = true then Oper.wp Tryz.prog o a w K Q else E := by
  rw [if_pos hw]
  have ha : xs.map a.eval = args := Array.ext' (by simpa using hal)
  have hr : (execOp a.eval o).run Tryz.prog w = .ok (.enter f args) w := by
    simp [execOp, ho, resolve, Deferred.ofValue, Act.eval, invoke] at ha ⊢
    rw [ha]
    exact eg args w
  unfold Oper.wp
  rw [hr]
  exact h.mono (by rintro e w' ⟨v, rfl, hk⟩; exact hk)
theorem same_below (l : List (Int × Int)) (a a2 : Option Addr) (ct c2 : Nat) (w : World) (hl : l.length ≤ 2000) (hI : Prg w.heap.size w a l) (hI2 : Prg w.heap.size w a2 l) :
    ∀ W, Below w.heap.size w W → Calls Tryz.prog 24 #[.slice a l.length ct, .slice a2 l.length c2] W fun e w' => e = .returned (.bool true) ∧ Below W.heap.size W w' := fun W hb => by
  refine (same_any l l a a2 ct c2 W.heap.size W hl (hI.later hb) (hI2.later hb)).mono ?_
  rintro e w' ⟨rfl, q, rfl⟩
  exact ⟨by simp, below_drewN_ (Below.refl _ _) _⟩
theorem take_ext (T : List UInt8) (i : Nat) : (⟨T.toArray⟩ : ByteArray).extract 0 i = ⟨(T.take i).toArray⟩ := by
  apply ByteArray.ext
  rw [ByteArray.data_extract]
  simp
theorem drop_ext (T : List UInt8) (k : Nat) : (⟨T.toArray⟩ : ByteArray).extract k T.length = ⟨(T.drop k).toArray⟩ := by
  apply ByteArray.ext
  rw [ByteArray.data_extract]
  simp
  rw [List.take_of_length_le (by rw [List.length_drop]; omega)]
theorem neq_same (t : List UInt8) (W : World) : (binOp .neq 9 (.string ⟨t.toArray⟩) (.string ⟨t.toArray⟩)).run Tryz.prog W = .ok (.bool false) W := by go_simp
theorem neq_guard (t : List UInt8) (W : World) : (eqGuard .neq 9 (.tmp 95) (.tmp 99) (.string ⟨t.toArray⟩) (.string ⟨t.toArray⟩)).run Tryz.prog W = .ok () W := by go_simp

noncomputable def parses_r7C : Code := ((Tryz.f5.body.bind (regOf 7)).getD .skip)

set_option maxRecDepth 100000 in
set_option maxHeartbeats 4000000 in
theorem parses_r7 (s T : List UInt8) (i k : Nat) (w : World) (t0 t2 t3 t4 t5 t6 t7 t11 t12 t13 t14 t15 t16 t17 t18 t19 t20 t21 t22 t23 t24 t25 t26 t27 t28 t29 t30 t31 t32 t33 t34 t35 t36 t37 t38 t39 t40 t41 t42 t43 t44 t45 t46 t47 t48 t49 t50 t51 t52 t53 t54 t55 t56 t57 t58 t59 t60 t61 t62 t63 t64 t65 t66 t67 t68 t69 t70 t71 t72 t73 t74 t75 t76 t77 t78 t79 t80 t81 t82 t83 t84 t85 t86 t87 t88 t89 t90 t91 t92 t93 t94 t95 t96 t97 t98 t99 t100 t101 t102 t103 : Value) (Q : Exit → Act → World → Prop)
    (hs : s.length ≤ 80) (hT : T.length ≤ 80) (hi : i ≤ T.length) (hk : k ≤ T.length)
    (hQ : Hid (∀ (s41 s42 s43 s44 s45 s46 s47 s48 s49 s50 s51 s52 s53 s54 s55 s56 s57 s58 : Value) (g : Nat) (w' : World), w'.cell? ⟨g, 0, none⟩ = some (.string ⟨s.toArray⟩) → w'.cell? ⟨g, 1, none⟩ = some (.string ⟨(T.take i ++ s ++ T.drop k).toArray⟩) → w'.cell? ⟨g, 2, none⟩ = some (.string ⟨(T.take i).toArray⟩) → w'.cell? ⟨g, 3, none⟩ = some (.string ⟨(T ++ 32 :: s).toArray⟩) → Below w.heap.size w w' → Q .normal ⟨#[t0, .string ⟨(s).toArray⟩, t2, t3, t4, t5, t6, t7, .string ⟨(T).toArray⟩, .int .i64 (i : Int), .int .i64 (k : Int), .slice (some ⟨g, 0, none⟩) 4 4, t12, t13, t14, t15, t16, t17, t18, t19, t20, t21, t22, t23, t24, t25, t26, t27, t28, t29, t30, t31, t32, t33, t34, t35, t36, t37, t38, t39, t40, s41, s42, s43, s44, s45, s46, s47, s48, s49, s50, s51, s52, s53, s54, s55, s56, s57, s58, t59, t60, t61, t62, t63, t64, t65, t66, t67, t68, t69, t70, t71, t72, t73, t74, t75, t76, t77, t78, t79, t80, t81, t82, t83, t84, t85, t86, t87, t88, t89, t90, t91, t92, t93, t94, t95, t96, t97, t98, t99, t100, t101, t102, t103], []⟩ w')) :
    Code.wp Tryz.prog parses_r7C Q ⟨#[t0, .string ⟨(s).toArray⟩, t2, t3, t4, t5, t6, t7, .string ⟨(T).toArray⟩, .int .i64 (i : Int), .int .i64 (k : Int), t11, t12, t13, t14, t15, t16, t17, t18, t19, t20, t21, t22, t23, t24, t25, t26, t27, t28, t29, t30, t31, t32, t33, t34, t35, t36, t37, t38, t39, t40, t41, t42, t43, t44, t45, t46, t47, t48, t49, t50, t51, t52, t53, t54, t55, t56, t57, t58, t59, t60, t61, t62, t63, t64, t65, t66, t67, t68, t69, t70, t71, t72, t73, t74, t75, t76, t77, t78, t79, t80, t81, t82, t83, t84, t85, t86, t87, t88, t89, t90, t91, t92, t93, t94, t95, t96, t97, t98, t99, t100, t101, t102, t103], []⟩ w := by
  conv => arg 2; whnf
  have e1 := take_ext T i
  have e2 := drop_ext T k
  have b1 : (i : Int) ≤ (T.length : Int) := by omega
  have b2 : (k : Int) ≤ (T.length : Int) := by omega
  have b3 : (0 : Int) ≤ (i : Int) := by omega
  have b4 : (0 : Int) ≤ (k : Int) := by omega
  have l1 : (T.take i).length ≤ 80 := by rw [List.length_take]; omega
  have l2 : (T.drop k).length ≤ 80 := by rw [List.length_drop]; omega
  have c0 : (⟨(T.take i).toArray⟩ ++ ⟨s.toArray⟩ ++ ⟨(T.drop k).toArray⟩ : ByteArray) = ⟨(T.take i ++ s ++ T.drop k).toArray⟩ := by simp [ByteArray.ext_iff]
  have c1 : (⟨T.toArray⟩ ++ ⟨#[32]⟩ ++ ⟨s.toArray⟩ : ByteArray) = ⟨(T ++ 32 :: s).toArray⟩ := by simp [ByteArray.ext_iff]
  generalize T.take i = A at *
  generalize T.drop k = B at *
  have h1 : ¬ 9223372036854775807 < A.length + s.length := by omega
  have h2 : ¬ 9223372036854775807 < A.length + s.length + B.length := by omega
  have h3 : ¬ 9223372036854775807 < T.length + 1 := by omega
  have h4 : ¬ 9223372036854775807 < T.length + 1 + s.length := by omega
  go_region_held3 (fun w' => Below w.heap.size w w')
    (first | assumption | ((repeat (first | exact Below.refl _ _ | assumption | refine below_alloc ?_ _ | refine Below.drew ?_ | refine below_drewN_ ?_ _ | refine below_step ?_ (by assumption))); done))
    (fail)
  all_goals
    refine hQ.out _ _ _ _ _ _ _ _ _ _ _ _ _ _ _ _ _ _ w.heap.size _ ?_ ?_ ?_ ?_ ?_
    · exact cell_drew (cell_new_at _ _ _ _ _ _ rfl rfl)
    · rw [List.append_assoc]; exact cell_drew (cell_new_at _ _ _ _ _ _ rfl rfl)
    · exact cell_drew (cell_new_at _ _ _ _ _ _ rfl rfl)
    · exact cell_drew (cell_new_at _ _ _ _ _ _ rfl rfl)
    · first | assumption | ((repeat (first | exact Below.refl _ _ | assumption | refine below_alloc ?_ _ | refine Below.drew ?_ | refine below_drewN_ ?_ _ | refine below_step ?_ (by assumption))); done)

end Go.Proofs.YtidgdfjnjgonoaaGreatDoor
