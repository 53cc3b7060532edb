/-
  The last statement of the laws' fixed examples.
-/
import Derived.Test.YtidgdfjnjgonoaaGreatDoorPSanL
import Derived.Deep.RegionHeld3
import Derived.Deep.DrawnRows
namespace Go.Proofs.YtidgdfjnjgonoaaGreatDoor
open Go Go.RowKit Go.Sort Go.Lib
attribute [local go_sem ↓] Go.wp_at_zero Go.wp_at_succ

def findRegion (n : Nat) : Code → Option Code
  | .region k ops b => if k = n then some (.region k ops b) else none
  | .loop c => findRegion n c
  | .seq a b => match findRegion n a with
    | some c => some c
    | none => findRegion n b
  | .block _ c => findRegion n c
  | .scope c => findRegion n c
  | .cond _ a b => match findRegion n a with
    | some c => some c
    | none => findRegion n b
  | _ => none
noncomputable def sanR12 : Code := ((Tryz.f10.body.bind (findRegion 12)).getD .skip)

theorem Ints.here {W : World} {a : Option Addr} {l : List Int} (h : Ints W.heap.size W a l) (o : Obj) : Ints (W.alloc o).heap.size (W.alloc o) a l := (h.below (below_alloc (Below.refl _ _) o)).mono (by rw [World.size_alloc]; omega)
theorem Ints.later {W W' : World} {a : Option Addr} {l : List Int} (h : Ints W.heap.size W a l) (hb : Below W.heap.size W W') : Ints W'.heap.size W' a l := (h.below hb).mono hb.size
theorem lit_here (W : World) (x : Int) : Ints (W.alloc (.cells #[.int .i64 x] 3)).heap.size (W.alloc (.cells #[.int .i64 x] 3)) (some ⟨W.heap.size, 0, none⟩) [x] := by rw [World.size_alloc]; exact lit_one W x
theorem lit_at (W : World) (b : Nat) (x : Int) (hb : b = W.heap.size) : Ints (W.alloc (.cells #[.int .i64 x] 3)).heap.size (W.alloc (.cells #[.int .i64 x] 3)) (some ⟨b, 0, none⟩) [x] := by subst hb; exact lit_here W x
theorem sameInts_here (l m : List Int) (a a2 : Option Addr) (ct c2 : Nat) (w : World) (hl : l.length ≤ 2000) (hI : Ints w.heap.size w a l) (hI2 : Ints w.heap.size w a2 m) (h : l = m) :
    Calls Tryz.prog 17 #[.slice a l.length ct, .slice a2 m.length c2] w fun e w' => e = .returned (.bool true) ∧ ∃ q, w' = w.drewN q := by
  have := sameInts_any l m a a2 ct c2 w.heap.size w hl hI hI2
  rwa [show decide (l = m) = true by simpa using h] at this
theorem Prg.later {W W' : World} {a : Option Addr} {l : List (Int × Int)} (h : Prg W.heap.size W a l) (hb : Below W.heap.size W W') : Prg W'.heap.size W' a l := (h.below hb).mono hb.size
theorem same_here (l m : List (Int × Int)) (a a2 : Option Addr) (ct c2 : Nat) (w : World) (hl : l.length ≤ 2000) (hI : Prg w.heap.size w a l) (hI2 : Prg w.heap.size w a2 m) (h : l = m) :
    Calls Tryz.prog 24 #[.slice a l.length ct, .slice a2 m.length c2] w fun e w' => e = .returned (.bool true) ∧ ∃ q, w' = w.drewN q := by
  have := same_any l m a a2 ct c2 w.heap.size w hl hI hI2
  rwa [show decide (l = m) = true by simpa using h] at this

theorem prg_four_at (W : World) (b : Nat) (x0 y0 x1 y1 x2 y2 x3 y3 : Int) (hb : b = W.heap.size) : Prg (W.alloc (.cells #[.int .i64 x0, .int .i64 y0, .int .i64 x1, .int .i64 y1, .int .i64 x2, .int .i64 y2, .int .i64 x3, .int .i64 y3] 41)).heap.size (W.alloc (.cells #[.int .i64 x0, .int .i64 y0, .int .i64 x1, .int .i64 y1, .int .i64 x2, .int .i64 y2, .int .i64 x3, .int .i64 y3] 41)) (some ⟨b, 0, none⟩) [(x0, y0), (x1, y1), (x2, y2), (x3, y3)] := by
  subst hb; exact prg_four W x0 y0 x1 y1 x2 y2 x3 y3

set_option maxRecDepth 100000 in
set_option maxHeartbeats 8000000 in
theorem san_tail (pa p11 : Option Addr) (bb ca cb pc11 : Nat) (t0 t3 t4 t6 t7 t8 t9 t11 t12 t13 t14 t15 t16 t17 t18 t19 t20 t21 t22 t23 t24 t25 t26 t27 t28 t29 t30 t31 t32 t33 t34 t35 t36 t37 t38 t39 t40 t41 t42 t43 t44 t45 t46 t47 t48 t49 t50 t51 t52 t53 t54 t55 t56 t57 t58 t59 t60 t61 t62 t63 t64 t65 t66 t67 t68 t69 t70 t71 t72 t73 t74 t75 t76 t77 t78 t79 t80 t81 t82 t83 t84 t85 t86 t87 t88 t89 t90 t91 t92 t93 t94 t95 t96 t97 t98 t99 t100 t101 t102 t103 t104 t105 t106 t107 t108 t109 t110 t111 t112 t113 t114 t115 t116 t117 t118 t119 t120 t121 t122 t123 t124 t125 t126 : Value) (w : World) (Q : Exit → Act → World → Prop)
    (PA : Hid (Prg w.heap.size w pa sanA)) (PB : Hid (Prg w.heap.size w (some ⟨bb, 0, none⟩) sanB)) (PT : Hid (Prg w.heap.size w p11 sanT)) (HL : Hid (LibIn w))
    (hQ : Hid (∀ (s1 s2 s3 s4 s5 s6 s7 s8 s9 s10 s11 s12 s13 s14 s15 s16 s17 s18 s19 s20 s21 s22 s23 s24 s25 s26 s27 s28 s29 s30 s31 s32 s33 s34 s35 s36 s37 s38 s39 s40 s41 s42 s43 s44 s45 s46 s47 s48 s49 s50 s51 s52 s53 s54 s55 s56 s57 s58 s59 s60 s61 s62 s63 s64 s65 s66 s67 s68 s69 s70 s71 s72 s73 s74 s75 s76 s77 s78 s79 s80 s81 s82 s83 s84 s85 s86 s87 s88 s89 s90 s91 s92 s93 s94 s95 s96 s97 s98 s99 s100 s101 s102 s103 s104 s105 s106 s107 s108 s109 s110 s111 s112 s113 s114 s115 s116 s117 s118 s119 s120 s121 s122 s123 s124 s125 s126 : Value) (w' : World), Below w.heap.size w w' → Q .normal ⟨#[.bool true, s1, s2, s3, s4, s5, s6, s7, s8, s9, s10, s11, s12, s13, s14, s15, s16, s17, s18, s19, s20, s21, s22, s23, s24, s25, s26, s27, s28, s29, s30, s31, s32, s33, s34, s35, s36, s37, s38, s39, s40, s41, s42, s43, s44, s45, s46, s47, s48, s49, s50, s51, s52, s53, s54, s55, s56, s57, s58, s59, s60, s61, s62, s63, s64, s65, s66, s67, s68, s69, s70, s71, s72, s73, s74, s75, s76, s77, s78, s79, s80, s81, s82, s83, s84, s85, s86, s87, s88, s89, s90, s91, s92, s93, s94, s95, s96, s97, s98, s99, s100, s101, s102, s103, s104, s105, s106, s107, s108, s109, s110, s111, s112, s113, s114, s115, s116, s117, s118, s119, s120, s121, s122, s123, s124, s125, s126], []⟩ w')) :
    Code.wp Tryz.prog sanR12 Q ⟨#[t0, .slice pa 4 ca, .slice (some ⟨bb, 0, none⟩) 4 cb, t3, t4, .bool true, t6, t7, t8, t9, .slice p11 4 pc11, t11, t12, t13, t14, t15, t16, t17, t18, t19, t20, t21, t22, t23, t24, t25, t26, t27, t28, t29, t30, t31, t32, t33, t34, t35, t36, t37, t38, t39, t40, t41, t42, t43, t44, t45, t46, t47, t48, t49, t50, t51, t52, t53, t54, t55, t56, t57, t58, t59, t60, t61, t62, t63, t64, t65, t66, t67, t68, t69, t70, t71, t72, t73, t74, t75, t76, t77, t78, t79, t80, t81, t82, t83, t84, t85, t86, t87, t88, t89, t90, t91, t92, t93, t94, t95, t96, t97, t98, t99, t100, t101, t102, t103, t104, t105, t106, t107, t108, t109, t110, t111, t112, t113, t114, t115, t116, t117, t118, t119, t120, t121, t122, t123, t124, t125, t126], []⟩ w := by
  conv => arg 2; whnf
  have hpb0 := (PB.out).at_ (j := 0) (by decide)
  have hpb3 := (PB.out).at_ (j := 3) (by decide)
  obtain ⟨b0, o0, e0, _, c0, c1⟩ := hpb0
  obtain ⟨b3, o3, e3, _, c6, c7⟩ := hpb3
  cases e0
  cases e3
  simp [sanB] at c0 c1 c6 c7
  have TA : Hid (∀ W, Below w.heap.size w W → Calls Tryz.prog 15 #[.slice pa 4 ca] W fun e w' => e = .returned (.bool true) ∧ Below W.heap.size W w') := Lib.hid (fun W hb => by
    have := takes_any sanA pa ca w.heap.size W (by decide) hb.size (PA.out.below hb)
    rw [sanA_takes] at this
    exact this)
  have TB : Hid (∀ W, Below w.heap.size w W → Calls Tryz.prog 15 #[.slice (some ⟨bb, 0, none⟩) 4 cb] W fun e w' => e = .returned (.bool false) ∧ Below W.heap.size W w') := Lib.hid (fun W hb => by
    have := takes_any sanB (some ⟨bb, 0, none⟩) cb w.heap.size W (by decide) hb.size (PB.out.below hb)
    rw [sanB_takes] at this
    exact this)
  have DA : Hid (∀ W, Below w.heap.size w W → Calls Tryz.prog 18 #[.slice pa 4 ca] W fun e w' => ∃ a c, e = .returned (.slice a 1 c) ∧ Ints w'.heap.size w' a [7] ∧ Below W.heap.size W w') := Lib.hid (fun W hb => by
    have := dirs_any sanA pa ca w.heap.size W (by decide) hb.size (PA.out.below hb) (HL.out.up hb).signs
    refine Calls.mono this ?_
    rintro e w' ⟨v, rfl, hov, hbb⟩
    rw [sanA_dirs] at hov
    obtain ⟨ad, cd, rfl, hI⟩ := ints_of_own hov
    exact ⟨ad, cd, rfl, hI, hbb⟩)
  have DB : Hid (∀ W, Below w.heap.size w W → Calls Tryz.prog 18 #[.slice (some ⟨bb, 0, none⟩) 4 cb] W fun e w' => ∃ a c, e = .returned (.slice a 1 c) ∧ Ints w'.heap.size w' a [1] ∧ Below W.heap.size W w') := Lib.hid (fun W hb => by
    have := dirs_any sanB (some ⟨bb, 0, none⟩) cb w.heap.size W (by decide) hb.size (PB.out.below hb) (HL.out.up hb).signs
    refine Calls.mono this ?_
    rintro e w' ⟨v, rfl, hov, hbb⟩
    rw [sanB_dirs] at hov
    obtain ⟨ad, cd, rfl, hI⟩ := ints_of_own hov
    exact ⟨ad, cd, rfl, hI, hbb⟩)
  have V1 : Hid (∀ W, Below w.heap.size w W → Calls Tryz.prog 13 #[.slice pa 4 ca, .int .i64 8, .int .i64 6, .int .i64 0] W fun e w' => e = .returned (.bool true) ∧ Below W.heap.size W w') := Lib.hid (fun W hb => by
    have := valid_any sanA pa ca 8 6 0 w.heap.size W hb.size (PA.out.below hb) (HL.out.up hb).signs
    rw [sanA_v1] at this
    exact this)
  have V2 : Hid (∀ W, Below w.heap.size w W → Calls Tryz.prog 13 #[.slice pa 4 ca, .int .i64 7, .int .i64 6, .int .i64 4] W fun e w' => e = .returned (.bool false) ∧ Below W.heap.size W w') := Lib.hid (fun W hb => by
    have := valid_any sanA pa ca 7 6 4 w.heap.size W hb.size (PA.out.below hb) (HL.out.up hb).signs
    rw [sanA_v2] at this
    exact this)
  have V3 : Hid (∀ W, Below w.heap.size w W → Calls Tryz.prog 13 #[.slice (some ⟨bb, 0, none⟩) 4 cb, .int .i64 8, .int .i64 6, .int .i64 3] W fun e w' => e = .returned (.bool false) ∧ Below W.heap.size W w') := Lib.hid (fun W hb => by
    have := valid_any sanB (some ⟨bb, 0, none⟩) cb 8 6 3 w.heap.size W hb.size (PB.out.below hb) (HL.out.up hb).signs
    rw [sanB_v1] at this
    exact this)
  have V4 : Hid (∀ W, Below w.heap.size w W → Calls Tryz.prog 13 #[.slice none 0 0, .int .i64 8, .int .i64 6, .int .i64 4] W fun e w' => e = .returned (.bool false) ∧ Below W.heap.size W w') := Lib.hid (fun W hb => by
    have := valid_any [] none 0 8 6 4 w.heap.size W hb.size (.inl rfl) (HL.out.up hb).signs
    rw [nil_valid] at this
    exact this)
  have SI7 : Hid (∀ (a a2 : Option Addr) (c : Nat) (W : World), Ints W.heap.size W a [7] → Ints W.heap.size W a2 [7] → Calls Tryz.prog 17 #[.slice a 1 c, .slice a2 1 1] W fun e w' => e = .returned (.bool true) ∧ ∃ q, w' = W.drewN q) := Lib.hid (fun a a2 c W h1 h2 => sameInts_here [7] [7] a a2 c 1 W (by decide) h1 h2 rfl)
  have SI1 : Hid (∀ (a a2 : Option Addr) (c : Nat) (W : World), Ints W.heap.size W a [1] → Ints W.heap.size W a2 [1] → Calls Tryz.prog 17 #[.slice a 1 c, .slice a2 1 1] W fun e w' => e = .returned (.bool true) ∧ ∃ q, w' = W.drewN q) := Lib.hid (fun a a2 c W h1 h2 => sameInts_here [1] [1] a a2 c 1 W (by decide) h1 h2 rfl)
  have ST : Hid (∀ (a2 : Option Addr) (W : World), Below w.heap.size w W → Prg W.heap.size W a2 sanT → Calls Tryz.prog 24 #[.slice p11 4 pc11, .slice a2 4 4] W fun e w' => e = .returned (.bool true) ∧ ∃ q, w' = W.drewN q) := Lib.hid (fun a2 W hb h => same_here sanT sanT p11 a2 pc11 4 W (by decide) (PT.out.later hb) h rfl)
  have bw := Below.refl w.heap.size w
  clear PA PB PT HL
  go_region_held3 (fun w' => w'.cell? ⟨bb, 0, none⟩ = some (.int .i64 9) ∧ w'.cell? ⟨bb, 1, none⟩ = some (.int .i64 3) ∧ w'.cell? ⟨bb, 6, none⟩ = some (.int .i64 10) ∧ w'.cell? ⟨bb, 7, none⟩ = some (.int .i64 3) ∧ Below w.heap.size w w')
    (first
      | ((try go_split_ands)
         refine ⟨?_, ?_, ?_, ?_, ?_⟩
         · first | assumption | exact cell_keep (by assumption) (by assumption) | exact cell_alloc_keep (by assumption) _ | exact cell_drew (by assumption)
         · first | assumption | exact cell_keep (by assumption) (by assumption) | exact cell_alloc_keep (by assumption) _ | exact cell_drew (by assumption)
         · first | assumption | exact cell_keep (by assumption) (by assumption) | exact cell_alloc_keep (by assumption) _ | exact cell_drew (by assumption)
         · first | assumption | exact cell_keep (by assumption) (by assumption) | exact cell_alloc_keep (by assumption) _ | exact cell_drew (by assumption)
         · first | assumption | ((repeat (first | exact Below.refl _ _ | assumption | refine below_alloc ?_ _ | refine Below.drew ?_ | refine below_drewN_ ?_ _ | refine below_step ?_ (by assumption))); done)))
    (first
     | (go_at_call 15
        (with_reducible refine Calls.mono (TA.out _ ?_) ?_)
        · (repeat (first | exact Below.refl _ _ | assumption | refine below_alloc ?_ _ | refine Below.drew ?_ | refine below_drewN_ ?_ _ | refine below_step ?_ (by assumption)))
        rintro e w' ⟨rfl, hbb⟩)
     | (go_at_call 15
        (with_reducible refine Calls.mono (TB.out _ ?_) ?_)
        · (repeat (first | exact Below.refl _ _ | assumption | refine below_alloc ?_ _ | refine Below.drew ?_ | refine below_drewN_ ?_ _ | refine below_step ?_ (by assumption)))
        rintro e w' ⟨rfl, hbb⟩)
     | (go_at_call 18
        (with_reducible refine Calls.mono (DA.out _ ?_) ?_)
        · (repeat (first | exact Below.refl _ _ | assumption | refine below_alloc ?_ _ | refine Below.drew ?_ | refine below_drewN_ ?_ _ | refine below_step ?_ (by assumption)))
        rintro e w' ⟨ad, cd, rfl, hI, hbb⟩)
     | (go_at_call 18
        (with_reducible refine Calls.mono (DB.out _ ?_) ?_)
        · (repeat (first | exact Below.refl _ _ | assumption | refine below_alloc ?_ _ | refine Below.drew ?_ | refine below_drewN_ ?_ _ | refine below_step ?_ (by assumption)))
        rintro e w' ⟨ad, cd, rfl, hI, hbb⟩)
     | (go_at_call 17
        (with_reducible refine Calls.mono (SI7.out _ _ _ _ ?_ ?_) ?_)
        · first | exact hI | exact hI.here _ | exact hI.later (by (repeat (first | exact Below.refl _ _ | assumption | refine below_alloc ?_ _ | refine Below.drew ?_ | refine below_drewN_ ?_ _ | refine below_step ?_ (by assumption))))
        · first | exact lit_at _ _ _ (by simp) | exact (lit_at _ _ _ (by simp)).later hbb
        rintro e w' ⟨rfl, q, rfl⟩)
     | (go_at_call 17
        go_loud ((with_reducible refine Calls.mono (SI1.out _ _ _ _ ?_ ?_) ?_)
                 · first | exact hI | exact hI.here _ | exact hI.later (by (repeat (first | exact Below.refl _ _ | assumption | refine below_alloc ?_ _ | refine Below.drew ?_ | refine below_drewN_ ?_ _ | refine below_step ?_ (by assumption))))
                 · first | exact lit_at _ _ _ (by simp) | exact (lit_at _ _ _ (by simp)).later hbb)
        rintro e w' ⟨rfl, q, rfl⟩)
     | (go_at_call 24
        go_loud ((with_reducible refine Calls.mono (ST.out _ _ ?_ ?_) ?_)
                 · (repeat (first | exact Below.refl _ _ | assumption | refine below_alloc ?_ _ | refine Below.drew ?_ | refine below_drewN_ ?_ _ | refine below_step ?_ (by assumption)))
                 · exact prg_four_at _ _ 9 3 1 6 7 6 10 3 (by simp))
        rintro e w' ⟨rfl, q, rfl⟩)
     | (go_at_call 13
        (with_reducible refine Calls.mono (V1.out _ ?_) ?_)
        · (repeat (first | exact Below.refl _ _ | assumption | refine below_alloc ?_ _ | refine Below.drew ?_ | refine below_drewN_ ?_ _ | refine below_step ?_ (by assumption)))
        rintro e w' ⟨rfl, hbb⟩)
     | (go_at_call 13
        (with_reducible refine Calls.mono (V2.out _ ?_) ?_)
        · (repeat (first | exact Below.refl _ _ | assumption | refine below_alloc ?_ _ | refine Below.drew ?_ | refine below_drewN_ ?_ _ | refine below_step ?_ (by assumption)))
        rintro e w' ⟨rfl, hbb⟩)
     | (go_at_call 13
        (with_reducible refine Calls.mono (V3.out _ ?_) ?_)
        · (repeat (first | exact Below.refl _ _ | assumption | refine below_alloc ?_ _ | refine Below.drew ?_ | refine below_drewN_ ?_ _ | refine below_step ?_ (by assumption)))
        rintro e w' ⟨rfl, hbb⟩)
     | (go_at_call 13
        (with_reducible refine Calls.mono (V4.out _ ?_) ?_)
        · (repeat (first | exact Below.refl _ _ | assumption | refine below_alloc ?_ _ | refine Below.drew ?_ | refine below_drewN_ ?_ _ | refine below_step ?_ (by assumption)))
        rintro e w' ⟨rfl, hbb⟩))
  all_goals
    (refine hQ.out _ _ _ _ _ _ _ _ _ _ _ _ _ _ _ _ _ _ _ _ _ _ _ _ _ _ _ _ _ _ _ _ _ _ _ _ _ _ _ _ _ _ _ _ _ _ _ _ _ _ _ _ _ _ _ _ _ _ _ _ _ _ _ _ _ _ _ _ _ _ _ _ _ _ _ _ _ _ _ _ _ _ _ _ _ _ _ _ _ _ _ _ _ _ _ _ _ _ _ _ _ _ _ _ _ _ _ _ _ _ _ _ _ _ _ _ _ _ _ _ _ _ _ _ _ _ _ ?_
     (repeat (first | exact Below.refl _ _ | assumption | refine below_alloc ?_ _ | refine Below.drew ?_ | refine below_drewN_ ?_ _ | refine below_step ?_ (by assumption))))
end Go.Proofs.YtidgdfjnjgonoaaGreatDoor
