/-
 The kinds of a game that the reference makes.
-/
import Derived.Test.YtbmcngoeinginaaGreatDoorTka
import Derived.Test.YtbmcngoeinginaaGreatDoorKRows
namespace Go.Proofs.YtbmcngoeinginaaGreatDoor
open Go Go.RowKit
theorem u8_in (x : Nat) (h : x ≤ 255) : IntKind.u8.wrap (x : Int) = (x : Int) := by unfold IntKind.wrap; simp [IntKind.bits, IntKind.signed]; omega
theorem bit_of (x : Nat) (h : x ≤ 255) : (bits BinOp.and IntKind.u8 (x : Int) 1 == 1) = decide (x % 2 = 1) := by
 have key : ∀ y : Fin 256, (bits BinOp.and IntKind.u8 ((y.val : Nat) : Int) 1 == 1) = decide (y.val % 2 = 1) := by decide +kernel
 exact key ⟨x, by omega⟩
theorem bit_of1 (x : Nat) (h : x ≤ 255) : (bits BinOp.and IntKind.u8 ((x : Int) / 2) 1 == 1) = decide (x / 2 % 2 = 1) := by
 have key : ∀ y : Fin 256, (bits BinOp.and IntKind.u8 (((y.val : Nat) : Int) / 2) 1 == 1) = decide (y.val / 2 % 2 = 1) := by decide +kernel
 exact key ⟨x, by omega⟩
theorem cells_raw {W : World} {B : Nat} {cs : Array Value} {t : TypeId} {v : Value} (h : W.heap[B]? = some (.cells cs t (0, 0))) (j : Nat) (hj : cs[j]? = some v) : W.cell? ⟨B, j, none⟩ = some v := by
 unfold World.cell?
 rw [h]
 simpa using hj
theorem cells_thaw {W : World} {B : Nat} {cs : Array Value} {t : TypeId} (h : W.heap[B]? = some (.cells cs t (0, 0))) (j : Nat) : W.frozen? ⟨B, j, none⟩ = false := by
 unfold World.frozen?
 rw [h]
 simp
theorem heap_new_at (W : World) (o : Obj) {b : Nat} (hb : b = W.heap.size) : (W.alloc o).drew.heap[b]? = some o := by
 subst hb; exact World.alloc_heap_new W o
theorem heap_old_at (W : World) (o o' : Obj) {b : Nat} (hb : b < W.heap.size) (h : W.drew.heap[b]? = some o') : (W.alloc o).drew.heap[b]? = some o' := by
 rw [← h]; exact Below.heap_alloc _ _ _ hb
theorem set9 {W : World} {B : Nat} {T : TypeId} {c0 c1 c2 c3 c4 c5 c6 c7 c8 : Value} (v0 v1 v2 v3 v4 v5 v6 v7 v8 : Value) (h : W.heap[B]? = some (.cells #[c0, c1, c2, c3, c4, c5, c6, c7, c8] T (0, 0))) :
   (((((((((W.setCell ⟨B, 0, none⟩ v0).setCell ⟨B, 1, none⟩ v1).setCell ⟨B, 2, none⟩ v2).setCell ⟨B, 3, none⟩ v3).setCell ⟨B, 4, none⟩ v4).setCell ⟨B, 5, none⟩ v5).setCell ⟨B, 6, none⟩ v6).setCell ⟨B, 7, none⟩ v7).setCell ⟨B, 8, none⟩ v8).heap[B]? = some (.cells #[v0, v1, v2, v3, v4, v5, v6, v7, v8] T (0, 0)) ∧ Alters (fun k => k = B) W (((((((((W.setCell ⟨B, 0, none⟩ v0).setCell ⟨B, 1, none⟩ v1).setCell ⟨B, 2, none⟩ v2).setCell ⟨B, 3, none⟩ v3).setCell ⟨B, 4, none⟩ v4).setCell ⟨B, 5, none⟩ v5).setCell ⟨B, 6, none⟩ v6).setCell ⟨B, 7, none⟩ v7).setCell ⟨B, 8, none⟩ v8) := by
 refine ⟨by simp [World.setCell, Array.getElem?_modify, h], ?_⟩
 exact (((((((((alters_cell _ _ _ _).trans (alters_cell _ _ _ _)).trans (alters_cell _ _ _ _)).trans (alters_cell _ _ _ _)).trans (alters_cell _ _ _ _)).trans (alters_cell _ _ _ _)).trans (alters_cell _ _ _ _)).trans (alters_cell _ _ _ _)).trans (alters_cell _ _ _ _))
theorem next_of {h B : Nat} {W : World} {on ot kv cv : Value} {x : GRaw} {k : Nat} (hG : GBox h B W on ot kv cv (gamK x k)) : ∃ an cn, on = .slice an 8 cn := by
 obtain ⟨an, cn, _, _, h1, _, _⟩ := hG.own.board.held
 refine ⟨an, cn, ?_⟩
 rw [h1, show (gamK x k).board = x.board from rfl, board_next]
theorem progOf_eq (x : GRaw) (n : Nat) : progOf x n = progS n 8 (kindN x : Nat) (x.rights : Nat) := by
 unfold progOf; rw [board_next]; rfl
theorem gamK_succ (x : GRaw) (k : Nat) : gamK x (k + 1) = { gamK x k with kinds := (gamK x k).kinds ++ [kindS x k] } := by
 unfold gamK; rw [List.range_succ, List.map_append]; rfl
theorem list_of {N : Nat} {w0 : World} (x : GRaw) (a0 a1 a2 : Option Addr) (c0 c1 c2 k : Nat) (hk : k < 2) (h : GRawIn N w0 a0 a1 a2 x) :
   ∃ ak ck, (x.cells a0 a1 a2 c0 c1 c2)[3 + k]? = some (.slice ak (x.list k).length ck) ∧ U8s N w0 ak (x.list k) := by
 rcases (show k = 0 ∨ k = 1 by omega) with rfl | rfl
 · exact ⟨a0, c0, rfl, h.k0⟩
 · exact ⟨a1, c1, rfl, h.k1⟩
theorem one3 {s : ByteArray} {h : Nat} {W : World} {pv : Value} {ps : List (List (Int × Int))} {b : Bool} (hp : OwnPg h W pv ps) : ∀ u ∈ [.string s, pv, .bool b], u.oneCell' = true := by
 obtain ⟨a, c, rfl⟩ := hp.slice
 intro u hu
 simp only [List.mem_cons, List.not_mem_nil, or_false] at hu
 rcases hu with rfl | rfl | rfl <;> rfl
def gamB (x : GRaw) : GamS := { gamK x (kindN x) with blocked := if x.f 3 % 4 = 3 then 1 + ((x.f 3 / 4 % 3 : Nat) : Int) else 3 }
def gamE (x : GRaw) : GamS := { gamB x with endless := if x.f 4 % 4 = 3 then 1 + ((x.f 4 / 4 % 3 : Nat) : Int) else 2 }
def gamC (x : GRaw) (n : Nat) : GamS := { gamE x with clauses := (x.c.take n).map (clauseS x) }
theorem Alters.drew_ {S : Nat → Prop} {W W' : World} (h : Alters S W W') : Alters S W W'.drew := ⟨h.os, h.tape, h.output, h.size, h.block⟩
theorem gamC_zero (x : GRaw) : gamC x 0 = gamE x := rfl
theorem madeG_eq (x : GRaw) : madeG x = gamC x 3 := rfl
theorem gamC_succ (x : GRaw) (n : Nat) (h : n < x.c.length) : gamC x (n + 1) = { gamC x n with clauses := (gamC x n).clauses ++ [clauseS x (x.c[n]?.getD (0, 0, 0))] } := by
 unfold gamC; rw [List.take_add_one, List.map_append]; simp [h]
noncomputable def kindsC : Code := match Tryz.f11.body with | some (.seq _ (.seq _ (.seq _ (.seq _ (.seq (.seq _ c) _))))) => c | _ => .skip
set_option maxRecDepth 100000 in
set_option maxHeartbeats 4000000 in
theorem kinds_any (x : GRaw) (a0 a1 a2 : Option Addr) (c0 c1 c2 N G cn : Nat) (an : Option Addr) (ot : Value) (w w0 wX : World) (t6 t7 t8 t9 t10 t11 t12 t13 t14 t15 t16 t17 t18 t19 t20 t21 t22 t23 t24 t25 t26 t27 t28 t29 t30 t31 t32 t33 t34 t35 t36 t37 t38 t39 t40 t41 t42 t43 t44 t45 t46 t47 t48 t49 t50 t51 t52 t53 t54 t55 t56 t57 t58 t59 t60 t61 t62 t63 t64 t65 t66 t67 t68 t69 t70 t71 t72 t73 t74 t75 t76 t77 t78 t79 t80 t81 t82 t83 t84 t85 t86 t87 t88 t89 t90 t91 t92 t93 t94 t95 t96 t97 t98 t99 t100 t101 t102 t103 t104 t105 t106 t107 t108 t109 t110 t111 t112 t113 t114 t115 t116 t117 t118 t119 t120 t121 t122 t123 t124 t125 t126 t127 t128 t129 t130 t131 t132 t133 t134 t135 t136 t137 t138 t139 t140 t141 t142 t143 t144 t145 t146 t147 t148 t149 t150 t151 t152 t153 t154 t155 t156 t157 t158 t159 t160 t161 t162 t163 t164 t165 t166 t167 t168 t169 t170 t171 t172 t173 t174 t175 t176 t177 t178 t179 t180 t181 t182 t183 t184 t185 t186 t187 t188 t189 t190 t191 t192 : Value) (Q : Exit → Act → World → Prop) (hpan : ∀ c a d v w, Q (.panic c) (Act.put a d v) w → Q (.panic c) a w) (bf : ∀ i, x.f i ≤ 255)
   (hR0 : w0.heap[w.heap.size]? = some (.cells #[.int .u8 x.w, .int .u8 x.h, .int .u8 x.cut, .slice a0 x.k0.length c0, .slice a1 x.k1.length c1, .slice a2 x.c.length c2, .int .u8 (x.f 0), .int .u8 (x.f 1), .int .u8 (x.f 2), .int .u8 (x.f 3), .int .u8 (x.f 4), .int .u8 (x.f 5)] 27 (0, 0)))
   (hs0 : w.heap.size + 1 < w0.heap.size) (hI0 : GRawIn N w0 a0 a1 a2 x) (hN0 : N ≤ w0.heap.size) (hGle : w0.heap.size ≤ G) (hG : GBox w0.heap.size G wX (.slice an 8 cn) ot (.slice none 0 0) (.slice none 0 0) (gamK x 0)) (hbw : Below w0.heap.size w0 wX)
   (hQ : Hid (∀ (s5 s6 s7 s33 s34 s35 s36 s37 s38 s39 s40 s41 s42 s43 s44 s45 s46 s47 s48 s49 s50 s51 s52 s53 s54 s55 s56 s57 s58 s59 s60 s61 s62 s63 s64 s65 s66 s67 s68 s69 s70 s71 s72 s73 s74 s75 s76 s77 s78 s79 s80 s81 s82 s83 s84 s85 s86 s87 s88 : Value) (kv : Value) (w' : World), GBox w0.heap.size G w' (.slice an 8 cn) ot kv (.slice none 0 0) (gamK x (kindN x)) → Below w0.heap.size w0 w' → Q .normal ⟨#[.agg #[.int .u8 x.w, .int .u8 x.h, .int .u8 x.cut, .slice a0 x.k0.length c0, .slice a1 x.k1.length c1, .slice a2 x.c.length c2, .int .u8 (x.f 0), .int .u8 (x.f 1), .int .u8 (x.f 2), .int .u8 (x.f 3), .int .u8 (x.f 4), .int .u8 (x.f 5)], .pointer (some ⟨w.heap.size, 0, none⟩), .pointer (some ⟨w.heap.size + 1, 0, none⟩), .pointer (some ⟨G, 0, none⟩), .int .i64 ((kindN x : Nat) : Int), s5, s6, s7, t8, t9, t10, t11, t12, t13, t14, t15, t16, t17, t18, t19, t20, t21, t22, t23, t24, t25, t26, t27, t28, t29, t30, t31, t32, s33, s34, s35, s36, s37, s38, s39, s40, s41, s42, s43, s44, s45, s46, s47, s48, s49, s50, s51, s52, s53, s54, s55, s56, s57, s58, s59, s60, s61, s62, s63, s64, s65, s66, s67, s68, s69, s70, s71, s72, s73, s74, s75, s76, s77, s78, s79, s80, s81, s82, s83, s84, s85, s86, s87, s88, t89, t90, t91, t92, t93, t94, t95, t96, t97, t98, t99, t100, t101, t102, t103, t104, t105, t106, t107, t108, t109, t110, t111, t112, t113, t114, t115, t116, t117, t118, t119, t120, t121, t122, t123, t124, t125, t126, t127, t128, t129, t130, t131, t132, t133, t134, t135, t136, t137, t138, t139, t140, t141, t142, t143, t144, t145, t146, t147, t148, t149, t150, t151, t152, t153, t154, t155, t156, t157, t158, t159, t160, t161, t162, t163, t164, t165, t166, t167, t168, t169, t170, t171, t172, t173, t174, t175, t176, t177, t178, t179, t180, t181, t182, t183, t184, t185, t186, t187, t188, t189, t190, t191, t192], []⟩ w')) :
   Code.wp Tryz.prog kindsC Q ⟨#[.agg #[.int .u8 x.w, .int .u8 x.h, .int .u8 x.cut, .slice a0 x.k0.length c0, .slice a1 x.k1.length c1, .slice a2 x.c.length c2, .int .u8 (x.f 0), .int .u8 (x.f 1), .int .u8 (x.f 2), .int .u8 (x.f 3), .int .u8 (x.f 4), .int .u8 (x.f 5)], .pointer (some ⟨w.heap.size, 0, none⟩), .pointer (some ⟨w.heap.size + 1, 0, none⟩), .pointer (some ⟨G, 0, none⟩), .int .i64 ((kindN x : Nat) : Int), .int .i64 0, t6, t7, t8, t9, t10, t11, t12, t13, t14, t15, t16, t17, t18, t19, t20, t21, t22, t23, t24, t25, t26, t27, t28, t29, t30, t31, t32, t33, t34, t35, t36, t37, t38, t39, t40, t41, t42, t43, t44, t45, t46, t47, t48, t49, t50, t51, t52, t53, t54, t55, t56, t57, t58, t59, t60, t61, t62, t63, t64, t65, t66, t67, t68, t69, t70, t71, t72, t73, t74, t75, t76, t77, t78, t79, t80, t81, t82, t83, t84, t85, t86, t87, t88, t89, t90, t91, t92, t93, t94, t95, t96, t97, t98, t99, t100, t101, t102, t103, t104, t105, t106, t107, t108, t109, t110, t111, t112, t113, t114, t115, t116, t117, t118, t119, t120, t121, t122, t123, t124, t125, t126, t127, t128, t129, t130, t131, t132, t133, t134, t135, t136, t137, t138, t139, t140, t141, t142, t143, t144, t145, t146, t147, t148, t149, t150, t151, t152, t153, t154, t155, t156, t157, t158, t159, t160, t161, t162, t163, t164, t165, t166, t167, t168, t169, t170, t171, t172, t173, t174, t175, t176, t177, t178, t179, t180, t181, t182, t183, t184, t185, t186, t187, t188, t189, t190, t191, t192], []⟩ wX := by
 conv => arg 2; whnf
 have hRX := (hbw.block w.heap.size (by omega)).trans hR0
 have hlX := hbw.size
 go_wp2_with fail
 have hkn : kindN x = 1 ∨ kindN x = 2 := by unfold kindN; split <;> omega
 go_loopw [5] (fun i wr => ∃ (k : Nat) (kv : Value), k ≤ kindN x ∧ i = .int .i64 k ∧ GBox w0.heap.size G wr (.slice an 8 cn) ot kv (.slice none 0 0) (gamK x k) ∧ Below w0.heap.size w0 wr)
   (fun i _ => kindN x - (intOf i).toNat)
 case atStart => exact ⟨0, _, Nat.zero_le _, rfl, hG, hbw⟩
 case round =>
   clear hG hbw hRX hlX;obtain ⟨k, kv, hk, rfl, hG, hbw⟩ := hrel;generalize wr = w4 at *;have hRX := (hbw.block w.heap.size (by omega)).trans hR0;have hlX := hbw.size
   by_cases hlt : k < kindN x
   · have tk : decide ((k : Int) < (kindN x : Int)) = true := by simpa using hlt
     go_upto_region 8 with (fail)
     go_cut [6] from 38 to 49 (fun s6 wy => ∃ (Kb : Nat), s6 = .pointer (some ⟨Kb, 0, none⟩) ∧ wy.heap[Kb]? = some (.cells #[.string ⟨(kindS x k).name.toArray⟩, .slice none 0 0, .bool (kindS x k).keep] 63 (0, 0)) ∧ Below w4.heap.size w4 wy ∧ w4.heap.size ≤ Kb)
     case first =>
       have q8 := cells_raw hRX 8 rfl;have hf2 := bf 2
       have k01 : k = 0 ∨ k = 1 := by omega
       have HKS := Lib.hid (show kindS x k = { name := if k = 0 then [97] else [98, 101, 101], progs := ((x.list k).take 4).map (progOf x), keep := decide ((x.f 2 / 2 ^ k) % 2 = 1) } from rfl);generalize kindS x k = KS at *;generalize x.f 2 = f2 at *;refine wp_region_held_drew (S := fun w' => w'.cell? ⟨w.heap.size, 8, none⟩ = some (.int .u8 f2)) (by as_aux_lemma => kernel_rfl) q8 (fun hHeld => ?_)
       rcases k01 with rfl | rfl
       · have hbit := bit_of f2 hf2
         have hKS : KS = { name := [97], progs := ((x.list 0).take 4).map (progOf x), keep := decide (f2 % 2 = 1) } := by rw [HKS.out]; simp
         have HK1 := Lib.hid (congrArg KindS.name hKS);have HK2 := Lib.hid (congrArg KindS.keep hKS);clear hKS;generalize decide (f2 % 2 = 1) = kp at *;refine TKA 1 ?_ (hQ := fun _ _ _ h => hpan _ _ _ _ _ h);(try simp only [pS]);refine TKA 4 ?_ (hQ := fun _ _ _ h => hpan _ _ _ _ _ h);(try simp only [pS]);refine TKA 5 ?_ (hQ := fun _ _ _ h => hpan _ _ _ _ _ h);(try simp only [pS]);refine TKA 6 ?_ (hQ := fun _ _ _ h => hpan _ _ _ _ _ h);(try simp only [pS]);refine TKA 7 ?_ (hQ := fun _ _ _ h => hpan _ _ _ _ _ h);(try simp only [pS]);refine TKA 8 ?_ (hQ := fun _ _ _ h => hpan _ _ _ _ _ h);(try simp only [pS]);refine TKA 9 ?_ (hQ := fun _ _ _ h => hpan _ _ _ _ _ h);(try simp only [pS]);refine TKA 10 ?_ (hQ := fun _ _ _ h => hpan _ _ _ _ _ h);(try simp only [pS]);refine wpAnyH_ready (rs := [0, 12]) (by as_aux_lemma => kernel_rfl) (by simp) ?_
         refine AC (fun K hK => ?_) (AC (fun K hK => ?_) AllReadyH.nil)
         · go_simp
           refine hK.out _ _ (cell_alloc_keep hHeld _) (fun hS => ?_);clear hK K;(try simp only [pS]);have n0 := cell_new_at w4.drew #[.string ⟨#[97]⟩, .string ⟨#[98, 101, 101]⟩] 9 w4.heap.size 0 _ rfl rfl;refine TKA 2 ?_ (hQ := fun _ _ _ h => hpan _ _ _ _ _ h);(try simp only [pS]);refine wpAnyH_ready (rs := [3, 12]) (by as_aux_lemma => kernel_rfl) (by simp) ?_;refine AC (fun K hK => ?_) (AC (fun K hK => ?_) AllReadyH.nil)
           · go_simp
             refine hK.out _ _ hS (fun _ => ?_);clear hK K;(try simp only [pS]);refine TKA 11 ?_ (hQ := fun _ _ _ h => hpan _ _ _ _ _ h);(try simp only [pS]);refine wpAnyH_ready (rs := [12]) (by as_aux_lemma => kernel_rfl) (by simp) ?_;refine AC (fun K hK => ?_) AllReadyH.nil;go_simp;refine hK.out _ _ (cell_alloc_keep hS _) (fun hS2 => ?_);clear hK K;(try simp only [pS]);refine wpAnyH_ready (rs := [13]) (by as_aux_lemma => kernel_rfl) (by simp) ?_;refine AC (fun K hK => ?_) AllReadyH.nil;go_simp;refine hK.out _ _ (cell_alloc_keep hS _) (fun _ => ?_);clear hK K;refine wpAnyH_done (by as_aux_lemma => kernel_rfl) ?_ _
             go_wp2_with fail; go_meet
             rw [HK1.out, HK2.out];refine ⟨_, rfl, ?_, by exact BLW, by try simp⟩
             (first | (refine heap_new_at _ _ ?_; simp; done) | (refine heap_old_at _ _ _ ?_ (heap_new_at _ _ rfl); simp; done))
           · go_simp
             refine hK.out _ _ (cell_alloc_keep hS _) (fun hS2 => ?_);clear hK K;(try simp only [pS]);have n1 := cell_alloc_keep n0 (.cells #[.string ⟨#[]⟩, .slice none 0 0, .bool false] 63);refine wpAnyH_ready (rs := [3]) (by as_aux_lemma => kernel_rfl) (by simp) ?_;refine AC (fun K hK => ?_) AllReadyH.nil;go_simp;refine hK.out _ _ hS2 (fun _ => ?_);clear hK K;(try simp only [pS]);refine TKA 11 ?_ (hQ := fun _ _ _ h => hpan _ _ _ _ _ h);(try simp only [pS]);refine wpAnyH_ready (rs := [13]) (by as_aux_lemma => kernel_rfl) (by simp) ?_;refine AC (fun K hK => ?_) AllReadyH.nil;go_simp;refine hK.out _ _ (cell_alloc_keep hS _) (fun _ => ?_);clear hK K;refine wpAnyH_done (by as_aux_lemma => kernel_rfl) ?_ _
             go_wp2_with fail; go_meet
             rw [HK1.out, HK2.out];refine ⟨_, rfl, ?_, by exact BLW, by try simp⟩
             (first | (refine heap_new_at _ _ ?_; simp; done) | (refine heap_old_at _ _ _ ?_ (heap_new_at _ _ rfl); simp; done))
         · go_simp
           refine hK.out _ _ (cell_alloc_keep hHeld _) (fun hS => ?_);clear hK K;(try simp only [pS]);refine wpAnyH_ready (rs := [0]) (by as_aux_lemma => kernel_rfl) (by simp) ?_;refine AC (fun K hK => ?_) AllReadyH.nil;go_simp;refine hK.out _ _ (cell_alloc_keep hS _) (fun hS2 => ?_);clear hK K;(try simp only [pS]);have n0 := cell_new_at (w4.alloc (.cells #[.string ⟨#[]⟩, .slice none 0 0, .bool false] 63)).drew #[.string ⟨#[97]⟩, .string ⟨#[98, 101, 101]⟩] 9 (w4.heap.size + 1) 0 _ (by simp) rfl;refine TKA 2 ?_ (hQ := fun _ _ _ h => hpan _ _ _ _ _ h);(try simp only [pS]);refine wpAnyH_ready (rs := [3]) (by as_aux_lemma => kernel_rfl) (by simp) ?_;refine AC (fun K hK => ?_) AllReadyH.nil;go_simp;refine hK.out _ _ hS2 (fun _ => ?_);clear hK K;(try simp only [pS]);refine TKA 11 ?_ (hQ := fun _ _ _ h => hpan _ _ _ _ _ h);(try simp only [pS])
           refine wpAnyH_ready (rs := [13]) (by as_aux_lemma => kernel_rfl) (by simp) ?_;refine AC (fun K hK => ?_) AllReadyH.nil;go_simp;refine hK.out _ _ (cell_alloc_keep (cell_alloc_keep hHeld _) _) (fun _ => ?_);clear hK K;refine wpAnyH_done (by as_aux_lemma => kernel_rfl) ?_ _
           go_wp2_with fail; go_meet
           rw [HK1.out, HK2.out];refine ⟨_, rfl, ?_, by exact BLW, by try simp⟩
           (first | (refine heap_new_at _ _ ?_; simp; done) | (refine heap_old_at _ _ _ ?_ (heap_new_at _ _ rfl); simp; done))
       · have hbit := bit_of1 f2 hf2
         have hKS : KS = { name := [98, 101, 101], progs := ((x.list 1).take 4).map (progOf x), keep := decide (f2 / 2 % 2 = 1) } := by rw [HKS.out]; simp
         have HK1 := Lib.hid (congrArg KindS.name hKS);have HK2 := Lib.hid (congrArg KindS.keep hKS);clear hKS;generalize decide (f2 / 2 % 2 = 1) = kp at *;refine TKA 1 ?_ (hQ := fun _ _ _ h => hpan _ _ _ _ _ h);(try simp only [pS]);refine TKA 4 ?_ (hQ := fun _ _ _ h => hpan _ _ _ _ _ h);(try simp only [pS]);refine TKA 5 ?_ (hQ := fun _ _ _ h => hpan _ _ _ _ _ h);(try simp only [pS]);refine TKA 6 ?_ (hQ := fun _ _ _ h => hpan _ _ _ _ _ h);(try simp only [pS]);refine TKA 7 ?_ (hQ := fun _ _ _ h => hpan _ _ _ _ _ h);(try simp only [pS]);refine TKA 8 ?_ (hQ := fun _ _ _ h => hpan _ _ _ _ _ h);(try simp only [pS]);refine TKA 9 ?_ (hQ := fun _ _ _ h => hpan _ _ _ _ _ h);(try simp only [pS]);refine TKA 10 ?_ (hQ := fun _ _ _ h => hpan _ _ _ _ _ h);(try simp only [pS]);refine wpAnyH_ready (rs := [0, 12]) (by as_aux_lemma => kernel_rfl) (by simp) ?_
         refine AC (fun K hK => ?_) (AC (fun K hK => ?_) AllReadyH.nil)
         · go_simp
           refine hK.out _ _ (cell_alloc_keep hHeld _) (fun hS => ?_);clear hK K;(try simp only [pS]);have n0 := cell_new_at w4.drew #[.string ⟨#[97]⟩, .string ⟨#[98, 101, 101]⟩] 9 w4.heap.size 1 _ rfl rfl;refine TKA 2 ?_ (hQ := fun _ _ _ h => hpan _ _ _ _ _ h);(try simp only [pS]);refine wpAnyH_ready (rs := [3, 12]) (by as_aux_lemma => kernel_rfl) (by simp) ?_;refine AC (fun K hK => ?_) (AC (fun K hK => ?_) AllReadyH.nil)
           · go_simp
             refine hK.out _ _ hS (fun _ => ?_);clear hK K;(try simp only [pS]);refine TKA 11 ?_ (hQ := fun _ _ _ h => hpan _ _ _ _ _ h);(try simp only [pS]);refine wpAnyH_ready (rs := [12]) (by as_aux_lemma => kernel_rfl) (by simp) ?_;refine AC (fun K hK => ?_) AllReadyH.nil;go_simp;refine hK.out _ _ (cell_alloc_keep hS _) (fun hS2 => ?_);clear hK K;(try simp only [pS]);refine wpAnyH_ready (rs := [13]) (by as_aux_lemma => kernel_rfl) (by simp) ?_;refine AC (fun K hK => ?_) AllReadyH.nil;go_simp;refine hK.out _ _ (cell_alloc_keep hS _) (fun _ => ?_);clear hK K;refine wpAnyH_done (by as_aux_lemma => kernel_rfl) ?_ _
             go_wp2_with fail; go_meet
             rw [HK1.out, HK2.out];refine ⟨_, rfl, ?_, by exact BLW, by try simp⟩
             (first | (refine heap_new_at _ _ ?_; simp; done) | (refine heap_old_at _ _ _ ?_ (heap_new_at _ _ rfl); simp; done))
           · go_simp
             refine hK.out _ _ (cell_alloc_keep hS _) (fun hS2 => ?_);clear hK K;(try simp only [pS]);have n1 := cell_alloc_keep n0 (.cells #[.string ⟨#[]⟩, .slice none 0 0, .bool false] 63);refine wpAnyH_ready (rs := [3]) (by as_aux_lemma => kernel_rfl) (by simp) ?_;refine AC (fun K hK => ?_) AllReadyH.nil;go_simp;refine hK.out _ _ hS2 (fun _ => ?_);clear hK K;(try simp only [pS]);refine TKA 11 ?_ (hQ := fun _ _ _ h => hpan _ _ _ _ _ h);(try simp only [pS]);refine wpAnyH_ready (rs := [13]) (by as_aux_lemma => kernel_rfl) (by simp) ?_;refine AC (fun K hK => ?_) AllReadyH.nil;go_simp;refine hK.out _ _ (cell_alloc_keep hS _) (fun _ => ?_);clear hK K;refine wpAnyH_done (by as_aux_lemma => kernel_rfl) ?_ _
             go_wp2_with fail; go_meet
             rw [HK1.out, HK2.out];refine ⟨_, rfl, ?_, by exact BLW, by try simp⟩
             (first | (refine heap_new_at _ _ ?_; simp; done) | (refine heap_old_at _ _ _ ?_ (heap_new_at _ _ rfl); simp; done))
         · go_simp
           refine hK.out _ _ (cell_alloc_keep hHeld _) (fun hS => ?_);clear hK K;(try simp only [pS]);refine wpAnyH_ready (rs := [0]) (by as_aux_lemma => kernel_rfl) (by simp) ?_;refine AC (fun K hK => ?_) AllReadyH.nil;go_simp;refine hK.out _ _ (cell_alloc_keep hS _) (fun hS2 => ?_);clear hK K;(try simp only [pS]);have n0 := cell_new_at (w4.alloc (.cells #[.string ⟨#[]⟩, .slice none 0 0, .bool false] 63)).drew #[.string ⟨#[97]⟩, .string ⟨#[98, 101, 101]⟩] 9 (w4.heap.size + 1) 1 _ (by simp) rfl;refine TKA 2 ?_ (hQ := fun _ _ _ h => hpan _ _ _ _ _ h);(try simp only [pS]);refine wpAnyH_ready (rs := [3]) (by as_aux_lemma => kernel_rfl) (by simp) ?_;refine AC (fun K hK => ?_) AllReadyH.nil;go_simp;refine hK.out _ _ hS2 (fun _ => ?_);clear hK K;(try simp only [pS]);refine TKA 11 ?_ (hQ := fun _ _ _ h => hpan _ _ _ _ _ h);(try simp only [pS])
           refine wpAnyH_ready (rs := [13]) (by as_aux_lemma => kernel_rfl) (by simp) ?_;refine AC (fun K hK => ?_) AllReadyH.nil;go_simp;refine hK.out _ _ (cell_alloc_keep (cell_alloc_keep hHeld _) _) (fun _ => ?_);clear hK K;refine wpAnyH_done (by as_aux_lemma => kernel_rfl) ?_ _
           go_wp2_with fail; go_meet
           rw [HK1.out, HK2.out];refine ⟨_, rfl, ?_, by exact BLW, by try simp⟩
           (first | (refine heap_new_at _ _ ?_; simp; done) | (refine heap_old_at _ _ _ ?_ (heap_new_at _ _ rfl); simp; done))
     case rest =>
       obtain ⟨Kb, rfl, hKb, hbK, hKle⟩ := hcut;generalize wc = w5 at *;have hKS : kindS x k = { name := if k = 0 then [97] else [98, 101, 101], progs := ((x.list k).take 4).map (progOf x), keep := decide ((x.f 2 / 2 ^ k) % 2 = 1) } := rfl;have HPR := Lib.hid (congrArg KindS.progs hKS);clear hKS;have HGS := Lib.hid (gamK_succ x k);have HPO := Lib.hid (progOf_eq x);obtain ⟨ak, ck, hak, hU⟩ := list_of (w0 := w0) (N := N) x a0 a1 a2 c0 c1 c2 k (by omega) hI0;have HAK := Lib.hid hak;have HU := Lib.hid hU
       have hk2 : (k : Int) < 2 := by omega
       generalize kindS x k = KS at *;generalize x.list k = L at *;clear hak hU
       go_wp2_with fail
       go_loopw [7] (fun i wr => ∃ (n : Nat) (pv : Value), n ≤ L.length ∧ n ≤ 4 ∧ i = .int .i64 n ∧ wr.heap[Kb]? = some (.cells #[.string ⟨KS.name.toArray⟩, pv, .bool KS.keep] 63 (0, 0)) ∧ OwnPg w4.heap.size wr pv ((L.take n).map (progOf x)) ∧ Below w4.heap.size w4 wr)
         (fun i _ => 4 - (intOf i).toNat)
       case atStart => exact ⟨0, _, Nat.zero_le _, Nat.zero_le _, rfl, hKb, OwnPg.nil _ _, hbK⟩
       case round =>
         clear hKb hbK;obtain ⟨n, pv, hnl, hn4, rfl, hKb, hPg, hbK⟩ := hrel;generalize wr = w6 at *;have hbw6 := hbw.trans (hbK.mono hlX);have hG6 := hG.below hbK;have hR6 := (hbw6.block w.heap.size (by omega)).trans hR0;have HU6 := Lib.hid (HU.out.up hN0 hbw6);have HN6 := Lib.hid (Nat.le_trans hN0 hbw6.size);have qk := cells_raw hR6 (3 + k) HAK.out
         by_cases h1 : n < L.length
         · by_cases h2 : n < 4
           · skip
             obtain ⟨bb, off, hab, hbN, hcb⟩ := HU6.out.at_ h1
             have t1 : decide (n < L.length) = true := by simpa using h1
             have t1' : decide ((n : Int) < (L.length : Int)) = true := by simpa using h1
             have t2 : decide ((n : Int) < 4) = true := by simp; omega
             have t3 : (0 : Int) ≤ (n : Int) := by omega
             have t4 : (n : Int) < (L.length : Int) := by omega
             have t5 : (0 : Int) ≤ (k : Int) := by omega
             subst hab;obtain ⟨vs, hrow, hel⟩ := hPg;have p1 := cells_raw hKb 1 rfl;have g1 : w6.cell? ⟨G, 1, none⟩ = some (.slice an 8 cn) := cells_raw hG6.box 1 rfl;have g4 : w6.cell? ⟨G, 4, none⟩ = some (.int .i64 (x.rights : Nat)) := cells_raw hG6.box 4 rfl;have hlx : L[n]?.getD 0 ≤ 255 := HU6.out.1 n;have HPN := Lib.hid (HPO.out (L[n]?.getD 0))
             have htake : (L.take (n + 1)).map (progOf x) = (L.take n).map (progOf x) ++ [progOf x (L[n]?.getD 0)] := by rw [List.take_add_one, List.map_append]; simp [h1]
             have hpl : ((L.take n).map (progOf x)).length = n := by simp; omega
             have HT := Lib.hid htake;rw [hpl] at hrow;have HROW := Lib.hid hrow;have HEL := Lib.hid hel;have HPL := Lib.hid hpl
             have hrr : x.rights ≤ 2 := by unfold GRaw.rights; omega
             generalize L[n]?.getD 0 = m at *;generalize x.rights = rr at *;clear htake hrow hel hpl;go_upto_region 12 with (fail)
             have hk12 : ∀ W : World, Below w4.heap.size w4 W → W.cell? ⟨w.heap.size, 3 + k, none⟩ = some (.slice (some ⟨bb, off, none⟩) L.length ck) ∧ W.cell? ⟨bb, off + n, none⟩ = some (.int .u8 m) ∧ W.cell? ⟨G, 1, none⟩ = some (.slice an 8 cn) ∧ W.cell? ⟨G, 4, none⟩ = some (.int .i64 rr) := by
               have hGl := hG.lt;intro W hW
               have hw6 : ∀ (b o : Nat), b < w4.heap.size → W.cell? ⟨b, o, none⟩ = w6.cell? ⟨b, o, none⟩ := fun b o hb => (hW.cell (p := ⟨b, o, none⟩) hb).trans (hbK.cell (p := ⟨b, o, none⟩) hb).symm
               exact ⟨(hw6 _ _ (by omega)).trans qk, (hw6 _ _ (by omega)).trans hcb, (hw6 _ _ hGl).trans g1, (hw6 _ _ hGl).trans g4⟩
             have HS4 := Lib.hid hk12;clear hk12;refine wp_region_held_drew (S := fun W => W.cell? ⟨w.heap.size, 3 + k, none⟩ = some (.slice (some ⟨bb, off, none⟩) L.length ck) ∧ W.cell? ⟨bb, off + n, none⟩ = some (.int .u8 m) ∧ W.cell? ⟨G, 1, none⟩ = some (.slice an 8 cn) ∧ W.cell? ⟨G, 4, none⟩ = some (.int .i64 rr)) (by as_aux_lemma => kernel_rfl) (HS4.out _ hbK.drew) (fun hHeld => ?_);have hb67 : Below w6.heap.size w6 w6.drew := (Below.refl _ w6).drew;have p7 : w6.drew.cell? ⟨Kb, 1, none⟩ = some pv := p1;have hKl := (Array.getElem?_eq_some_iff.1 hKb).1;have hs7 : w6.drew.heap.size = w6.heap.size := rfl;generalize w6.drew = w7 at *;refine TKA 0 ?_ (hQ := fun _ _ _ h => hpan _ _ _ _ _ h);(try simp only [pS]);refine TKA 2 ?_ (hQ := fun _ _ _ h => hpan _ _ _ _ _ h);(try simp only [pS]);refine TKA 3 ?_ (hQ := fun _ _ _ h => hpan _ _ _ _ _ h);(try simp only [pS])
             refine TKA 4 ?_ (hQ := fun _ _ _ h => hpan _ _ _ _ _ h);(try simp only [pS]);refine TKA 5 ?_ (hQ := fun _ _ _ h => hpan _ _ _ _ _ h);(try simp only [pS]);refine TKA 6 ?_ (hQ := fun _ _ _ h => hpan _ _ _ _ _ h);(try simp only [pS]);refine TKA 7 ?_ (hQ := fun _ _ _ h => hpan _ _ _ _ _ h);(try simp only [pS]);refine TKA 8 ?_ (hQ := fun _ _ _ h => hpan _ _ _ _ _ h);(try simp only [pS]);refine TKA 9 ?_ (hQ := fun _ _ _ h => hpan _ _ _ _ _ h);(try simp only [pS]);refine TKA 10 ?_ (hQ := fun _ _ _ h => hpan _ _ _ _ _ h);(try simp only [pS]);refine TKA 11 ?_ (hQ := fun _ _ _ h => hpan _ _ _ _ _ h);(try simp only [pS]);refine TKA 12 ?_ (hQ := fun _ _ _ h => hpan _ _ _ _ _ h);(try simp only [pS]);refine TKA 13 ?_ (hQ := fun _ _ _ h => hpan _ _ _ _ _ h);(try simp only [pS]);refine TKA 14 ?_ (hQ := fun _ _ _ h => hpan _ _ _ _ _ h);(try simp only [pS])
             refine TKA 15 ?_ (hQ := fun _ _ _ h => hpan _ _ _ _ _ h);(try simp only [pS]);refine wpAnyH_ready (rs := [1, 16]) (by as_aux_lemma => kernel_rfl) (by simp) ?_;refine AC (fun K hK => ?_) (AC (fun K hK => ?_) AllReadyH.nil)
             · go_simp
               refine hK.out _ _ hHeld (fun _ => ?_);clear hK K;(try simp only [pS]);refine wpAnyH_ready (rs := [16]) (by as_aux_lemma => kernel_rfl) (by simp) ?_;refine AC (fun K hK => ?_) AllReadyH.nil;refine step_call_g rfl 32 _ _ #[.int .u8 m, .int .i64 8, .int .i64 (kindN x : Nat), .int .i64 (rr : Nat)] rfl rfl (enters_of Tryz.func32 (by as_aux_lemma => kernel_rfl) rfl) ((prog_any m hlx 8 (kindN x : Nat) (rr : Nat) (by omega) (by omega) (by omega) w7).mono ?_);rintro e w8 ⟨v, rfl, hO, hb8⟩;obtain ⟨pa, pc, rfl, _⟩ := hO.prg;have hb68 : Below w6.heap.size w6 w8 := below_step hb67 hb8;have hb48 : Below w4.heap.size w4 w8 := hbK.trans (hb68.mono hbK.size);refine ⟨_, rfl, hK.out _ _ (HS4.out _ hb48) (fun _ => ?_)⟩;clear hK K;(try simp only [pS]);have hKb8 := (hb68.block Kb hKl).trans hKb;have p8 : w8.cell? ⟨Kb, 1, none⟩ = some pv := cells_raw hKb8 1 rfl
               have hl48 : w4.heap.size ≤ w8.heap.size := Nat.le_trans hbK.size hb68.size;have hrow8 : w8.ownsRow w4.heap.size 68 1 pv n vs := ownsRow_off HROW.out (S := fun _ => False) (Alters.of_below hb68) (fun _ h => h.elim)
               have hel8 : ∀ (i : Nat) (u : Value), vs[i]? = some u → OwnStp w4.heap.size w8 u (((L.take n).map (progOf x))[i]?.getD []) := fun i u hu => ownsRow_off (HEL.out i u hu) (S := fun _ => False) (Alters.of_below hb68) (fun _ h => h.elim)
               have hO8 := OwnStp.mono hO (Nat.le_trans hbK.size (hs7 ▸ Nat.le_refl _));generalize (progS m 8 ↑(kindN x) ↑rr).length = pl at *;rw [← HPN.out] at hO8;have HR8 := Lib.hid hrow8;have HE8 := Lib.hid hel8;have HO8 := Lib.hid hO8
               have hone : ∀ u ∈ [Value.slice pa pl pc], u.oneCell' = true := by
                 intro u hu
                 obtain rfl : u = .slice pa pl pc := by simpa using hu
                 rfl
               have HON := Lib.hid hone;clear hrow8 hel8 hO8 hO hone;refine wpAnyH_ready (rs := [17]) (by as_aux_lemma => kernel_rfl) (by simp) ?_;refine AC (fun K hK => ?_) AllReadyH.nil;go_simp;refine hK.out _ _ (HS4.out _ (hb48.alloc hl48 _)) (fun _ => ?_);clear hK K;(try simp only [pS]);refine wpAnyH_ready (rs := [18]) (by as_aux_lemma => kernel_rfl) (by simp) ?_;refine AC (fun K hK => ?_) AllReadyH.nil;have hrA := ownsRow_off HR8.out (S := fun _ => False) (Alters.of_below (below_alloc (Below.refl _ w8) (.cells #[.slice pa pl pc] 68))) (fun _ h => h.elim)
               refine step_pushG rfl 61 68 (.slice none 0 0) 1 24 Tryz.underlying61 info_prog rfl (by decide) (by decide) (.tmp 64) (.tmp 80) rfl w4.heap.size pv n vs rfl hrA (by omega) (by simp; omega) w8.heap.size 1 [.slice pa pl pc] rfl rfl (World.alloc_heap_new _ _) HON.out (fun gp cp w9 hown9 hg9 => ?_)
               have hKb9 := box_pushed HR8.out hKb8 (by decide) hg9
               have hb89 : Below w4.heap.size w8 w9 := ((below_alloc (Below.refl _ w8) _).mono hl48).trans ((Alters.of_grown hg9).below (by rw [World.size_alloc]; omega) (fun k hk => (World.ownsRow.lt HR8.out k hk.symm).1))
               refine hK.out _ _ (HS4.out _ (hb48.trans hb89)) (fun hS9 => ?_);clear hK K;(try simp only [pS]);have z1 := cells_raw hKb9 1 rfl;have z2 := cells_thaw hKb9 1
               obtain ⟨q1, q2, q3⟩ := addProg hKb8 (by omega) hl48 (by rw [HPL.out]; exact HR8.out) HE8.out HO8.out hg9 (by rw [HPL.out]; exact hown9)
               have q4 := hb48.trans q3;have Q2 := Lib.hid q2;clear q2;refine TKA 19 ?_ (hQ := fun _ _ _ h => hpan _ _ _ _ _ h);(try simp only [pS]);refine wpAnyH_ready (rs := [20]) (by as_aux_lemma => kernel_rfl) (by simp) ?_;refine AC (fun K hK => ?_) AllReadyH.nil;go_simp;refine hK.out _ _ (HS4.out _ q4) (fun _ => ?_);clear hK K;(try simp only [pS]);clear z1 z2;generalize w9.setCell ⟨Kb, 1, none⟩ (.slice (some ⟨gp, 0, none⟩) (n + 1) cp) = wZ at *;refine wpAnyH_done (by as_aux_lemma => kernel_rfl) ?_ _
               go_wp2_with fail
               go_roundw
               case rel => exact ⟨n + 1, _, by omega, by omega, by go_num, q1, by rw [HT.out]; exact Q2.out, q4⟩
               case measure => simp [intOf]; omega
             · skip
               refine step_call_g rfl 32 _ _ #[.int .u8 m, .int .i64 8, .int .i64 (kindN x : Nat), .int .i64 (rr : Nat)] rfl rfl (enters_of Tryz.func32 (by as_aux_lemma => kernel_rfl) rfl) ((prog_any m hlx 8 (kindN x : Nat) (rr : Nat) (by omega) (by omega) (by omega) w7).mono ?_);rintro e w8 ⟨v, rfl, hO, hb8⟩;obtain ⟨pa, pc, rfl, _⟩ := hO.prg;have hb68 : Below w6.heap.size w6 w8 := below_step hb67 hb8;have hb48 : Below w4.heap.size w4 w8 := hbK.trans (hb68.mono hbK.size);refine ⟨_, rfl, hK.out _ _ (HS4.out _ hb48) (fun _ => ?_)⟩;clear hK K;(try simp only [pS]);have hKb8 := (hb68.block Kb hKl).trans hKb;have p8 : w8.cell? ⟨Kb, 1, none⟩ = some pv := cells_raw hKb8 1 rfl;have hl48 : w4.heap.size ≤ w8.heap.size := Nat.le_trans hbK.size hb68.size
               have hrow8 : w8.ownsRow w4.heap.size 68 1 pv n vs := ownsRow_off HROW.out (S := fun _ => False) (Alters.of_below hb68) (fun _ h => h.elim)
               have hel8 : ∀ (i : Nat) (u : Value), vs[i]? = some u → OwnStp w4.heap.size w8 u (((L.take n).map (progOf x))[i]?.getD []) := fun i u hu => ownsRow_off (HEL.out i u hu) (S := fun _ => False) (Alters.of_below hb68) (fun _ h => h.elim)
               have hO8 := OwnStp.mono hO (Nat.le_trans hbK.size (hs7 ▸ Nat.le_refl _));generalize (progS m 8 ↑(kindN x) ↑rr).length = pl at *;rw [← HPN.out] at hO8;have HR8 := Lib.hid hrow8;have HE8 := Lib.hid hel8;have HO8 := Lib.hid hO8
               have hone : ∀ u ∈ [Value.slice pa pl pc], u.oneCell' = true := by
                 intro u hu
                 obtain rfl : u = .slice pa pl pc := by simpa using hu
                 rfl
               have HON := Lib.hid hone;clear hrow8 hel8 hO8 hO hone;refine wpAnyH_ready (rs := [1, 17]) (by as_aux_lemma => kernel_rfl) (by simp) ?_;refine AC (fun K hK => ?_) (AC (fun K hK => ?_) AllReadyH.nil)
               · go_simp
                 refine hK.out _ _ (HS4.out _ hb48) (fun _ => ?_);clear hK K;(try simp only [pS]);refine wpAnyH_ready (rs := [17]) (by as_aux_lemma => kernel_rfl) (by simp) ?_;refine AC (fun K hK => ?_) AllReadyH.nil;go_simp;refine hK.out _ _ (HS4.out _ (hb48.alloc hl48 _)) (fun _ => ?_);clear hK K;(try simp only [pS]);refine wpAnyH_ready (rs := [18]) (by as_aux_lemma => kernel_rfl) (by simp) ?_;refine AC (fun K hK => ?_) AllReadyH.nil;have hrA := ownsRow_off HR8.out (S := fun _ => False) (Alters.of_below (below_alloc (Below.refl _ w8) (.cells #[.slice pa pl pc] 68))) (fun _ h => h.elim)
                 refine step_pushG rfl 61 68 (.slice none 0 0) 1 24 Tryz.underlying61 info_prog rfl (by decide) (by decide) (.tmp 64) (.tmp 80) rfl w4.heap.size pv n vs rfl hrA (by omega) (by simp; omega) w8.heap.size 1 [.slice pa pl pc] rfl rfl (World.alloc_heap_new _ _) HON.out (fun gp cp w9 hown9 hg9 => ?_)
                 have hKb9 := box_pushed HR8.out hKb8 (by decide) hg9
                 have hb89 : Below w4.heap.size w8 w9 := ((below_alloc (Below.refl _ w8) _).mono hl48).trans ((Alters.of_grown hg9).below (by rw [World.size_alloc]; omega) (fun k hk => (World.ownsRow.lt HR8.out k hk.symm).1))
                 refine hK.out _ _ (HS4.out _ (hb48.trans hb89)) (fun hS9 => ?_);clear hK K;(try simp only [pS]);have z1 := cells_raw hKb9 1 rfl;have z2 := cells_thaw hKb9 1
                 obtain ⟨q1, q2, q3⟩ := addProg hKb8 (by omega) hl48 (by rw [HPL.out]; exact HR8.out) HE8.out HO8.out hg9 (by rw [HPL.out]; exact hown9)
                 have q4 := hb48.trans q3;have Q2 := Lib.hid q2;clear q2;refine TKA 19 ?_ (hQ := fun _ _ _ h => hpan _ _ _ _ _ h);(try simp only [pS]);refine wpAnyH_ready (rs := [20]) (by as_aux_lemma => kernel_rfl) (by simp) ?_;refine AC (fun K hK => ?_) AllReadyH.nil;go_simp;refine hK.out _ _ (HS4.out _ q4) (fun _ => ?_);clear hK K;(try simp only [pS]);clear z1 z2;generalize w9.setCell ⟨Kb, 1, none⟩ (.slice (some ⟨gp, 0, none⟩) (n + 1) cp) = wZ at *;refine wpAnyH_done (by as_aux_lemma => kernel_rfl) ?_ _
                 go_wp2_with fail
                 go_roundw
                 case rel => exact ⟨n + 1, _, by omega, by omega, by go_num, q1, by rw [HT.out]; exact Q2.out, q4⟩
                 case measure => simp [intOf]; omega
               · skip
                 go_simp;refine hK.out _ _ (HS4.out _ (hb48.alloc hl48 _)) (fun _ => ?_);clear hK K;(try simp only [pS]);have p9 := cell_alloc_keep p8 (.cells #[.slice pa pl pc] 68);refine wpAnyH_ready (rs := [1]) (by as_aux_lemma => kernel_rfl) (by simp) ?_;refine AC (fun K hK => ?_) AllReadyH.nil;go_simp;refine hK.out _ _ (HS4.out _ (hb48.alloc hl48 _)) (fun _ => ?_);clear hK K p9;(try simp only [pS]);refine wpAnyH_ready (rs := [18]) (by as_aux_lemma => kernel_rfl) (by simp) ?_;refine AC (fun K hK => ?_) AllReadyH.nil;have hrA := ownsRow_off HR8.out (S := fun _ => False) (Alters.of_below (below_alloc (Below.refl _ w8) (.cells #[.slice pa pl pc] 68))) (fun _ h => h.elim)
                 refine step_pushG rfl 61 68 (.slice none 0 0) 1 24 Tryz.underlying61 info_prog rfl (by decide) (by decide) (.tmp 64) (.tmp 80) rfl w4.heap.size pv n vs rfl hrA (by omega) (by simp; omega) w8.heap.size 1 [.slice pa pl pc] rfl rfl (World.alloc_heap_new _ _) HON.out (fun gp cp w9 hown9 hg9 => ?_)
                 have hKb9 := box_pushed HR8.out hKb8 (by decide) hg9
                 have hb89 : Below w4.heap.size w8 w9 := ((below_alloc (Below.refl _ w8) _).mono hl48).trans ((Alters.of_grown hg9).below (by rw [World.size_alloc]; omega) (fun k hk => (World.ownsRow.lt HR8.out k hk.symm).1))
                 refine hK.out _ _ (HS4.out _ (hb48.trans hb89)) (fun hS9 => ?_);clear hK K;(try simp only [pS]);have z1 := cells_raw hKb9 1 rfl;have z2 := cells_thaw hKb9 1
                 obtain ⟨q1, q2, q3⟩ := addProg hKb8 (by omega) hl48 (by rw [HPL.out]; exact HR8.out) HE8.out HO8.out hg9 (by rw [HPL.out]; exact hown9)
                 have q4 := hb48.trans q3;have Q2 := Lib.hid q2;clear q2;refine TKA 19 ?_ (hQ := fun _ _ _ h => hpan _ _ _ _ _ h);(try simp only [pS]);refine wpAnyH_ready (rs := [20]) (by as_aux_lemma => kernel_rfl) (by simp) ?_;refine AC (fun K hK => ?_) AllReadyH.nil;go_simp;refine hK.out _ _ (HS4.out _ q4) (fun _ => ?_);clear hK K;(try simp only [pS]);clear z1 z2;generalize w9.setCell ⟨Kb, 1, none⟩ (.slice (some ⟨gp, 0, none⟩) (n + 1) cp) = wZ at *;refine wpAnyH_done (by as_aux_lemma => kernel_rfl) ?_ _
                 go_wp2_with fail
                 go_roundw
                 case rel => exact ⟨n + 1, _, by omega, by omega, by go_num, q1, by rw [HT.out]; exact Q2.out, q4⟩
                 case measure => simp [intOf]; omega
           · skip
             have hpe : KS.progs = (L.take n).map (progOf x) := by rw [HPR.out, show n = 4 by omega]
             have t1 : decide (n < L.length) = true := by simpa using h1
             have t1' : decide ((n : Int) < (L.length : Int)) = true := by simpa using h1
             have t2 : decide ((n : Int) < 4) = false := by simp; omega
             rw [← hpe] at hPg;have hP0 := hPg.low hlX
             have hkl : (gamK x k).kinds.length = k := by simp [gamK]
             obtain ⟨vs, hvs, hrow, hel⟩ := hG6.own.kinds;have hrowA := ownsRow_off hrow (S := fun _ => False) (Alters.of_below (below_alloc (Below.refl _ w6) (.cells #[.string ⟨KS.name.toArray⟩, pv, .bool KS.keep] 63))) (fun _ h => h.elim);rw [hkl] at hrowA;have HROWA := Lib.hid hrowA;clear hrowA;have HONE := Lib.hid (one3 (s := ⟨KS.name.toArray⟩) (b := KS.keep) hP0)
             have hkk : kindN x ≤ 2 := by omega
             have HP0 := Lib.hid hP0;have HKL := Lib.hid hkl;have HVS := Lib.hid hvs;have HROW := Lib.hid hrow;have HEL := Lib.hid hel;have kk0 := cells_raw hKb 0 rfl;have kk1 := cells_raw hKb 1 rfl;have kk2 := cells_raw hKb 2 rfl;have g3 : w6.cell? ⟨G, 3, none⟩ = some kv := cells_raw hG6.box 3 rfl;have HBX := Lib.hid hG6.box;have HG6 := Lib.hid hG6;have HHL := Lib.hid hbw6.size;obtain ⟨pa, pcap, hpv⟩ := hPg.slice;subst hpv;clear hpe hPg hP0 hkl hvs hrow hel hKb hG6
             go_wp2_with (at_builtin; go_loud (refine wpList_pushG rfl 35 63 (.agg #[.string ⟨#[]⟩, .slice none 0 0, .bool false]) 3 48 Tryz.underlying35 info_kind rfl (by decide) (by decide) (.tmp 84) (.tmp 86) rfl w0.heap.size kv k _ rfl HROWA.out (by omega) (by simp; have := HHL.out; omega) w6.heap.size 1 [.string ⟨KS.name.toArray⟩, .slice pa _ pcap, .bool KS.keep] rfl rfl (World.alloc_heap_new _ _) HONE.out ?_; intro gk ck' w9 hown9 hg9; have HB9 := box_pushed HROW.out HBX.out (by decide) hg9; have z1 := cells_raw HB9 3 rfl; have z2 := cells_thaw HB9 3; clear HB9))
             obtain ⟨r1, r2⟩ := addKind (K := KS) HG6.out hGle HHL.out HVS.out HROW.out HEL.out HP0.out hg9 (by first | exact hown9 | (rw [HKL.out]; exact hown9))
             rw [← HGS.out] at r1;have r3 := hbw6.trans r2;clear z1 z2
             go_roundw
             case rel => exact ⟨k + 1, _, by omega, by go_num, r1, r3⟩
             case measure => simp [intOf]; omega
         · skip
           have hpe : KS.progs = (L.take n).map (progOf x) := by
             rw [HPR.out, List.take_of_length_le (show L.length ≤ 4 by omega), List.take_of_length_le (show L.length ≤ n by omega)]
           have t1 : decide (n < L.length) = false := by simpa using h1
           have t1' : decide ((n : Int) < (L.length : Int)) = false := by simpa using h1
           rw [← hpe] at hPg;have hP0 := hPg.low hlX
           have hkl : (gamK x k).kinds.length = k := by simp [gamK]
           obtain ⟨vs, hvs, hrow, hel⟩ := hG6.own.kinds;have hrowA := ownsRow_off hrow (S := fun _ => False) (Alters.of_below (below_alloc (Below.refl _ w6) (.cells #[.string ⟨KS.name.toArray⟩, pv, .bool KS.keep] 63))) (fun _ h => h.elim);rw [hkl] at hrowA;have HROWA := Lib.hid hrowA;clear hrowA;have HONE := Lib.hid (one3 (s := ⟨KS.name.toArray⟩) (b := KS.keep) hP0)
           have hkk : kindN x ≤ 2 := by omega
           have HP0 := Lib.hid hP0;have HKL := Lib.hid hkl;have HVS := Lib.hid hvs;have HROW := Lib.hid hrow;have HEL := Lib.hid hel;have kk0 := cells_raw hKb 0 rfl;have kk1 := cells_raw hKb 1 rfl;have kk2 := cells_raw hKb 2 rfl;have g3 : w6.cell? ⟨G, 3, none⟩ = some kv := cells_raw hG6.box 3 rfl;have HBX := Lib.hid hG6.box;have HG6 := Lib.hid hG6;have HHL := Lib.hid hbw6.size;obtain ⟨pa, pcap, hpv⟩ := hPg.slice;subst hpv;clear hpe hPg hP0 hkl hvs hrow hel hKb hG6
           go_wp2_with (at_builtin; go_loud (refine wpList_pushG rfl 35 63 (.agg #[.string ⟨#[]⟩, .slice none 0 0, .bool false]) 3 48 Tryz.underlying35 info_kind rfl (by decide) (by decide) (.tmp 84) (.tmp 86) rfl w0.heap.size kv k _ rfl HROWA.out (by omega) (by simp; have := HHL.out; omega) w6.heap.size 1 [.string ⟨KS.name.toArray⟩, .slice pa _ pcap, .bool KS.keep] rfl rfl (World.alloc_heap_new _ _) HONE.out ?_; intro gk ck' w9 hown9 hg9; have HB9 := box_pushed HROW.out HBX.out (by decide) hg9; have z1 := cells_raw HB9 3 rfl; have z2 := cells_thaw HB9 3; clear HB9))
           obtain ⟨r1, r2⟩ := addKind (K := KS) HG6.out hGle HHL.out HVS.out HROW.out HEL.out HP0.out hg9 (by first | exact hown9 | (rw [HKL.out]; exact hown9))
           rw [← HGS.out] at r1;have r3 := hbw6.trans r2;clear z1 z2
           go_roundw
           case rel => exact ⟨k + 1, _, by omega, by go_num, r1, r3⟩
           case measure => simp [intOf]; omega
   · obtain rfl : k = kindN x := by omega
     have tk : decide ((kindN x : Int) < (kindN x : Int)) = false := by simp
     have tk' : decide (kindN x < kindN x) = false := by simp
     have HG := Lib.hid hG;clear hG hRX
     go_wp2_with fail
     exact hQ.out _ _ _ _ _ _ _ _ _ _ _ _ _ _ _ _ _ _ _ _ _ _ _ _ _ _ _ _ _ _ _ _ _ _ _ _ _ _ _ _ _ _ _ _ _ _ _ _ _ _ _ _ _ _ _ _ _ _ _ kv w4 HG.out hbw
end Go.Proofs.YtbmcngoeinginaaGreatDoor
