/-
  ProgMatchesReference: the region that draws.
-/
import Derived.Test.YtidgdfjnjgonoaaGreatDoorRegT
import Derived.Test.YtidgdfjnjgonoaaGreatDoorPSan
import Derived.Test.YtidgdfjnjgonoaaGreatDoorQPrint
import Derived.Test.YtidgdfjnjgonoaaGreatDoorQValid
import Derived.Test.YtidgdfjnjgonoaaGreatDoorQDirsW
namespace Go.Proofs.YtidgdfjnjgonoaaGreatDoor
open Go Go.RowKit Go.Sort Go.Lib
attribute [local go_sem ↓] Go.wp_at_zero Go.wp_at_succ

theorem neq_str (t : List UInt8) (W : World) : (binOp .neq 9 (.string ⟨t.toArray⟩) (.string ⟨t.toArray⟩)).run Tryz.prog W = .ok (.bool false) W := by go_simp
theorem neq_grd (t : List UInt8) (W : World) : (eqGuard .neq 9 (.tmp 73) (.tmp 75) (.string ⟨t.toArray⟩) (.string ⟨t.toArray⟩)).run Tryz.prog W = .ok () W := by go_simp
theorem sameI_b (l : List Int) (W : World) (v1 v2 : Value) (n1 n2 : Nat) (hl : l.length ≤ 2000) (h1 : OwnInts n1 W v1 l) (h2 : OwnInts n2 W v2 l) :
    Calls Tryz.prog 17 #[v1, v2] W fun e w' => e = .returned (.bool true) ∧ Below W.heap.size W w' := by
  obtain ⟨a1, c1, rfl, i1⟩ := OwnInts.ints h1
  obtain ⟨a2, c2, rfl, i2⟩ := OwnInts.ints h2
  refine (sameInts_any l l a1 a2 c1 c2 W.heap.size W hl i1 i2).mono ?_
  rintro e w' ⟨rfl, q, rfl⟩
  exact ⟨by simp, below_drewN_ (Below.refl _ _) _⟩
theorem own_bel {n : Nat} {W W' : World} {v : Value} {l : List Int} (h : OwnInts n W v l) (hb : Below W.heap.size W W') : OwnInts n W' v l :=
  h.alters (S := fun _ => False) (Alters.of_below hb) (fun _ h => h.elim)

noncomputable def pref_r7C : Code := ((Tryz.f3.body.bind (regOf 7)).getD .skip)

set_option maxRecDepth 100000 in
set_option maxHeartbeats 4000000 in
theorem pref_r7 (L : List (Int × Int)) (a : Option Addr) (c b5 : Nat) (d k r : Int) (w : World) (t0 t1 t2 t3 t4 t6 t7 t8 t9 t11 t12 t13 t14 t15 t16 t17 t18 t19 t20 t21 t22 t23 t24 t25 t26 t27 t28 t29 t30 t31 t32 t33 t34 t35 t36 t37 t38 t39 t40 t41 t42 t43 t44 t45 t46 t47 t48 t49 t50 t51 t52 t53 t54 t55 t56 t57 t58 t59 t60 t61 t62 t63 t64 t65 t66 t67 t68 t69 t70 t71 t72 t73 t74 t75 t76 t77 t78 : Value) (Q : Exit → Act → World → Prop)
    (hl : L.length ≤ 100) (HA : Hid (Prg w.heap.size w a L)) (HL : Hid (LibIn w))
    (c0 : w.cell? ⟨b5, 0, none⟩ = some (.int .i64 d)) (c1 : w.cell? ⟨b5, 1, none⟩ = some (.int .i64 k)) (c2 : w.cell? ⟨b5, 2, none⟩ = some (.int .i64 r))
    (hQ : Hid (∀ (s32 s33 s34 s35 s36 s37 s38 s39 s40 s41 s42 s43 s44 s45 s46 s47 s48 s49 s50 s51 s52 s53 s54 s55 s56 s57 s58 s59 s60 s61 s62 s63 s64 s65 s66 s67 s68 s69 s70 s71 s72 s73 s74 s75 s76 : Value)  (w' : World), Below w.heap.size w w' → Q .normal ⟨#[t0, t1, t2, t3, t4, .pointer (some ⟨b5, 0, none⟩), t6, t7, t8, t9, .slice a L.length c, t11, t12, t13, t14, t15, t16, t17, t18, t19, t20, t21, t22, t23, t24, t25, t26, t27, t28, t29, t30, t31, s32, s33, s34, s35, s36, s37, s38, s39, s40, s41, s42, s43, s44, s45, s46, s47, s48, s49, s50, s51, s52, s53, s54, s55, s56, s57, s58, s59, s60, s61, s62, s63, s64, s65, s66, s67, s68, s69, s70, s71, s72, s73, s74, s75, s76, .bool false, t78], []⟩ w')) :
    Code.wp Tryz.prog pref_r7C Q ⟨#[t0, t1, t2, t3, t4, .pointer (some ⟨b5, 0, none⟩), t6, t7, t8, t9, .slice a L.length c, t11, t12, t13, t14, t15, t16, t17, t18, t19, t20, t21, t22, t23, t24, t25, t26, t27, t28, t29, t30, t31, t32, t33, t34, t35, t36, t37, t38, t39, t40, t41, t42, t43, t44, t45, t46, t47, t48, t49, t50, t51, t52, t53, t54, t55, t56, t57, t58, t59, t60, t61, t62, t63, t64, t65, t66, t67, t68, t69, t70, t71, t72, t73, t74, t75, t76, t77, t78], []⟩ w := by
  conv => arg 2; whnf
  have V1 := Lib.hid (fun W (h : Below w.heap.size w W) => valid_any L a c d k r W.heap.size W (Nat.le_refl _) (HA.out.later h) (HL.out.up h).signs)
  have V2 := Lib.hid (fun W (h : Below w.heap.size w W) => rvalid_any L a c d k r W.heap.size W hl (Nat.le_refl _) (HA.out.later h))
  have V3 := Lib.hid (fun W (h : Below w.heap.size w W) => valid_any L a c 8 6 4 W.heap.size W (Nat.le_refl _) (HA.out.later h) (HL.out.up h).signs)
  have V4 := Lib.hid (fun W (h : Below w.heap.size w W) => rvalid_any L a c 8 6 4 W.heap.size W hl (Nat.le_refl _) (HA.out.later h))
  have T1 := Lib.hid (fun W (h : Below w.heap.size w W) => takes_any L a c W.heap.size W hl (Nat.le_refl _) (HA.out.later h))
  have T2 : Hid (∀ W, Below w.heap.size w W → Calls Tryz.prog 16 #[.slice a L.length c] W fun e w' => e = .returned (.bool (takesS L)) ∧ Below W.heap.size W w') := Lib.hid (fun W h => by
    refine (rtakes_any L a c W.heap.size W hl (HA.out.later h)).mono ?_
    rintro e w' ⟨rfl, rfl⟩
    exact ⟨rfl, Below.refl _ _⟩)
  have D1 := Lib.hid (fun W (h : Below w.heap.size w W) => dirs_any L a c W.heap.size W hl (Nat.le_refl _) (HA.out.later h) (HL.out.up h).signs)
  have D2 := Lib.hid (fun W (h : Below w.heap.size w W) => rdirs_any L a c W.heap.size W hl (Nat.le_refl _) (HA.out.later h))
  have hdl : (dirsS L).length ≤ 2000 := by have := dirsS_len L; omega
  have S1 := Lib.hid (fun W v1 v2 (h1 : OwnInts 0 W v1 (dirsS L)) (h2 : OwnInts 0 W v2 (dirsS L)) => sameI_b (dirsS L) W v1 v2 0 0 hdl h1 h2)
  have P1 := Lib.hid (fun W (h : Below w.heap.size w W) => print_any L a c W.heap.size W (Nat.le_refl _) (HA.out.later h) (HL.out.up h).signs)
  have P2 : Hid (∀ W, Below w.heap.size w W → Calls Tryz.prog 21 #[.slice a L.length c] W fun e w' => e = .returned (.string ⟨(printS L).toArray⟩) ∧ Below W.heap.size W w') := Lib.hid (fun W h => by
    refine (rprint_any L a c W.heap.size W hl (Nat.le_refl _) (HA.out.later h)).mono ?_
    rintro e w' ⟨rfl, hb⟩
    exact ⟨rfl, hb⟩)
  have hn1 := neq_str (printS L)
  have hn2 := neq_grd (printS L)
  generalize validP L d k r = vA at *
  generalize validP L 8 6 4 = vB at *
  generalize takesS L = tk at *
  generalize printS L = tx at *
  generalize dirsS L = ds at *
  have z1 : (vA != vA) = false := by simp
  have z2 : (vB != vB) = false := by simp
  have z3 : (tk != tk) = false := by simp
  go_region_held3 (fun w' => w'.cell? ⟨b5, 0, none⟩ = some (.int .i64 d) ∧ w'.cell? ⟨b5, 1, none⟩ = some (.int .i64 k) ∧ w'.cell? ⟨b5, 2, none⟩ = some (.int .i64 r) ∧ Below w.heap.size w w')
    (first
      | ((try go_split_ands)
         refine ⟨?_, ?_, ?_, ?_⟩
         · refine cell_keep (w := w) (?_ : RowKit.Below w.heap.size w _) c0; first | assumption | ((repeat (first | exact Below.refl _ _ | assumption | refine below_alloc ?_ _ | refine Below.drew ?_ | refine below_drewN_ ?_ _ | refine below_step ?_ (by assumption))); done)
         · refine cell_keep (w := w) (?_ : RowKit.Below w.heap.size w _) c1; first | assumption | ((repeat (first | exact Below.refl _ _ | assumption | refine below_alloc ?_ _ | refine Below.drew ?_ | refine below_drewN_ ?_ _ | refine below_step ?_ (by assumption))); done)
         · refine cell_keep (w := w) (?_ : RowKit.Below w.heap.size w _) c2; first | assumption | ((repeat (first | exact Below.refl _ _ | assumption | refine below_alloc ?_ _ | refine Below.drew ?_ | refine below_drewN_ ?_ _ | refine below_step ?_ (by assumption))); done)
         · first | assumption | ((repeat (first | exact Below.refl _ _ | assumption | refine below_alloc ?_ _ | refine Below.drew ?_ | refine below_drewN_ ?_ _ | refine below_step ?_ (by assumption))); done)))
    (first
      | (go_at_call 13
         (with_reducible refine Calls.mono (V1.out _ ?_) ?_)
         · first | assumption | ((repeat (first | exact Below.refl _ _ | assumption | refine below_alloc ?_ _ | refine Below.drew ?_ | refine below_drewN_ ?_ _ | refine below_step ?_ (by assumption))); done)
         rintro e w' ⟨rfl, hbb⟩)
      | (go_at_call 13
         (with_reducible refine Calls.mono (V3.out _ ?_) ?_)
         · first | assumption | ((repeat (first | exact Below.refl _ _ | assumption | refine below_alloc ?_ _ | refine Below.drew ?_ | refine below_drewN_ ?_ _ | refine below_step ?_ (by assumption))); done)
         rintro e w' ⟨rfl, hbb⟩)
      | (go_at_call 14
         (with_reducible refine Calls.mono (V2.out _ ?_) ?_)
         · first | assumption | ((repeat (first | exact Below.refl _ _ | assumption | refine below_alloc ?_ _ | refine Below.drew ?_ | refine below_drewN_ ?_ _ | refine below_step ?_ (by assumption))); done)
         rintro e w' ⟨rfl, hbb⟩)
      | (go_at_call 14
         (with_reducible refine Calls.mono (V4.out _ ?_) ?_)
         · first | assumption | ((repeat (first | exact Below.refl _ _ | assumption | refine below_alloc ?_ _ | refine Below.drew ?_ | refine below_drewN_ ?_ _ | refine below_step ?_ (by assumption))); done)
         rintro e w' ⟨rfl, hbb⟩)
      | (go_at_call 15
         (with_reducible refine Calls.mono (T1.out _ ?_) ?_)
         · first | assumption | ((repeat (first | exact Below.refl _ _ | assumption | refine below_alloc ?_ _ | refine Below.drew ?_ | refine below_drewN_ ?_ _ | refine below_step ?_ (by assumption))); done)
         rintro e w' ⟨rfl, hbb⟩)
      | (go_at_call 16
         (with_reducible refine Calls.mono (T2.out _ ?_) ?_)
         · first | assumption | ((repeat (first | exact Below.refl _ _ | assumption | refine below_alloc ?_ _ | refine Below.drew ?_ | refine below_drewN_ ?_ _ | refine below_step ?_ (by assumption))); done)
         rintro e w' ⟨rfl, hbb⟩)
      | (go_at_call 18
         (with_reducible refine Calls.mono (D1.out _ ?_) ?_)
         · first | assumption | ((repeat (first | exact Below.refl _ _ | assumption | refine below_alloc ?_ _ | refine Below.drew ?_ | refine below_drewN_ ?_ _ | refine below_step ?_ (by assumption))); done)
         rintro e wA ⟨vx, rfl, oA0, hbA⟩
         have oA := OwnInts.mono oA0 (Nat.zero_le _))
      | (go_at_call 19
         (with_reducible refine Calls.mono (D2.out _ ?_) ?_)
         · first | assumption | ((repeat (first | exact Below.refl _ _ | assumption | refine below_alloc ?_ _ | refine Below.drew ?_ | refine below_drewN_ ?_ _ | refine below_step ?_ (by assumption))); done)
         rintro e wB ⟨vy, rfl, oB0, hbB⟩
         have oB := OwnInts.mono oB0 (Nat.zero_le _))
      | (go_at_call 17
         (with_reducible refine Calls.mono (S1.out _ _ _ ?_ ?_) ?_)
         · first | exact oA | (refine own_bel oA ?_; first | assumption | ((repeat (first | exact Below.refl _ _ | assumption | refine below_alloc ?_ _ | refine Below.drew ?_ | refine below_drewN_ ?_ _ | refine below_step ?_ (by assumption))); done))
         · first | exact oB | (refine own_bel oB ?_; first | assumption | ((repeat (first | exact Below.refl _ _ | assumption | refine below_alloc ?_ _ | refine Below.drew ?_ | refine below_drewN_ ?_ _ | refine below_step ?_ (by assumption))); done))
         rintro e w' ⟨rfl, hbb⟩)
      | (go_at_call 20
         (with_reducible refine Calls.mono (P1.out _ ?_) ?_)
         · first | assumption | ((repeat (first | exact Below.refl _ _ | assumption | refine below_alloc ?_ _ | refine Below.drew ?_ | refine below_drewN_ ?_ _ | refine below_step ?_ (by assumption))); done)
         rintro e w' ⟨rfl, hbb⟩)
      | (go_at_call 21
         (with_reducible refine Calls.mono (P2.out _ ?_) ?_)
         · first | assumption | ((repeat (first | exact Below.refl _ _ | assumption | refine below_alloc ?_ _ | refine Below.drew ?_ | refine below_drewN_ ?_ _ | refine below_step ?_ (by assumption))); done)
         rintro e w' ⟨rfl, hbb⟩)
      | fail "no arm")
  all_goals
    refine hQ.out _ _ _ _ _ _ _ _ _ _ _ _ _ _ _ _ _ _ _ _ _ _ _ _ _ _ _ _ _ _ _ _ _ _ _ _ _ _ _ _ _ _ _ _ _ _ ?_
    first | assumption | ((repeat (first | exact Below.refl _ _ | assumption | refine below_alloc ?_ _ | refine Below.drew ?_ | refine below_drewN_ ?_ _ | refine below_step ?_ (by assumption))); done)
end Go.Proofs.YtidgdfjnjgonoaaGreatDoor
