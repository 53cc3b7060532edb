/-
 Made of the reference for games.
-/
import Derived.Test.YtbmcngoeinginaaGreatDoorTka
import Derived.Test.YtbmcngoeinginaaGreatDoorKMadeK
import Derived.Deep.CutBlock
namespace Go.Proofs.YtbmcngoeinginaaGreatDoor
open Go Go.RowKit
set_option maxRecDepth 100000 in
set_option maxHeartbeats 4000000 in
theorem madeG_any (x : GRaw) (a0 a1 a2 : Option Addr) (c0 c1 c2 N : Nat) (w : World) (hN : N ≤ w.heap.size) (hI : GRawIn N w a0 a1 a2 x) :
   Calls Tryz.prog 11 #[.agg (x.cells a0 a1 a2 c0 c1 c2)] w fun e w' => ∃ on ot kv cv, e = .returned (.agg ((madeG x).cells on ot kv cv)) ∧ OwnG w.heap.size w' on ot kv cv (madeG x) ∧ Below w.heap.size w w' := by
 have hR0 : ((w.alloc (.cells (x.cells a0 a1 a2 c0 c1 c2) 27)).alloc (.cells #[.int .i64 0, .slice none 0 0, .slice none 0 0, .slice none 0 0, .int .i64 0, .bool false, .slice none 0 0, .int .i64 0, .int .i64 0] 38)).heap[w.heap.size]? = some (.cells (x.cells a0 a1 a2 c0 c1 c2) 27 (0, 0)) :=
   (Below.heap_alloc _ _ _ (by simp)).trans (World.alloc_heap_new _ _)
 have hZ0 : ((w.alloc (.cells (x.cells a0 a1 a2 c0 c1 c2) 27)).alloc (.cells #[.int .i64 0, .slice none 0 0, .slice none 0 0, .slice none 0 0, .int .i64 0, .bool false, .slice none 0 0, .int .i64 0, .int .i64 0] 38)).heap[w.heap.size + 1]? = some (.cells #[.int .i64 0, .slice none 0 0, .slice none 0 0, .slice none 0 0, .int .i64 0, .bool false, .slice none 0 0, .int .i64 0, .int .i64 0] 38 (0, 0)) := by
   have := World.alloc_heap_new (w.alloc (.cells (x.cells a0 a1 a2 c0 c1 c2) 27)) (.cells #[.int .i64 0, .slice none 0 0, .slice none 0 0, .slice none 0 0, .int .i64 0, .bool false, .slice none 0 0, .int .i64 0, .int .i64 0] 38)
   rwa [World.size_alloc] at this
 have hb0 : Below w.heap.size w ((w.alloc (.cells (x.cells a0 a1 a2 c0 c1 c2) 27)).alloc (.cells #[.int .i64 0, .slice none 0 0, .slice none 0 0, .slice none 0 0, .int .i64 0, .bool false, .slice none 0 0, .int .i64 0, .int .i64 0] 38)) := by exact BLW
 have hs0 : w.heap.size + 1 < ((w.alloc (.cells (x.cells a0 a1 a2 c0 c1 c2) 27)).alloc (.cells #[.int .i64 0, .slice none 0 0, .slice none 0 0, .slice none 0 0, .int .i64 0, .bool false, .slice none 0 0, .int .i64 0, .int .i64 0] 38)).heap.size := by simp
 unfold GRaw.cells at *
 have bf := hI.bf
 go_enter Tryz.func11, Tryz.ntmps11
 go_upto_region 1 with (fail)
 generalize (w.alloc (.cells #[.int .u8 x.w, .int .u8 x.h, .int .u8 x.cut, .slice a0 x.k0.length c0, .slice a1 x.k1.length c1, .slice a2 x.c.length c2, .int .u8 (x.f 0), .int .u8 (x.f 1), .int .u8 (x.f 2), .int .u8 (x.f 3), .int .u8 (x.f 4), .int .u8 (x.f 5)] 27)).alloc (.cells #[.int .i64 0, .slice none 0 0, .slice none 0 0, .slice none 0 0, .int .i64 0, .bool false, .slice none 0 0, .int .i64 0, .int .i64 0] 38) = w0 at *
 have hI0 := hI.up hN hb0
 have hN0 := Nat.le_trans hN hb0.size
 clear hI
 go_cut [3] (fun s3 wx => ∃ (G : Nat) (on ot : Value), s3 = .pointer (some ⟨G, 0, none⟩) ∧ GBox w0.heap.size G wx on ot (.slice none 0 0) (.slice none 0 0) (gamK x 0) ∧ Below w0.heap.size w0 wx ∧ w0.heap.size ≤ G)
 case first =>
   have r0 := cells_raw hR0 0 rfl;have r1 := cells_raw hR0 1 rfl;have r2 := cells_raw hR0 2 rfl;have r6 := cells_raw hR0 6 rfl;have r7 := cells_raw hR0 7 rfl;have HM := Lib.hid (fun W => madeB_any x.w x.h x.cut hI0.bw hI0.bh hI0.bc W);have e1 : ((x.f 0 : Nat) : Int).tmod 3 = ((x.f 0 % 3 : Nat) : Int) := rfl;have e2 : ((x.f 1 : Nat) : Int).tmod 4 = ((x.f 1 % 4 : Nat) : Int) := rfl;have l1 := Nat.mod_lt (x.f 0) (show 0 < 3 by omega);have l2 := Nat.mod_lt (x.f 1) (show 0 < 4 by omega)
   have e3 : IntKind.i64.wrap ((x.f 0 : Nat) : Int) = ((x.f 0 : Nat) : Int) := IntWalk.i64_in _ (by have := bf 0; omega)
   have e4 : (((x.f 1 % 4 : Nat) : Int) == 3) = decide (x.f 1 % 4 = 3) := by rw [Bool.eq_iff_iff]; simp; omega
   have HG := Lib.hid (show gamK x 0 = { board := madeB x.w x.h x.cut, kinds := [], rights := (x.f 0 % 3 : Nat), must := decide (x.f 1 % 4 = 3), clauses := [], blocked := 3, endless := 2 } from rfl);generalize x.f 0 % 3 = z0 at *;generalize decide (x.f 1 % 4 = 3) = z2 at *;generalize x.f 1 % 4 = z1 at *;have e5 : IntKind.i64.wrap (z0 : Int) = (z0 : Int) := IntWalk.i64_in _ (by omega);have e6 := u8_in z1 (by omega);refine wp_region_held_drew (S := fun w' => w'.cell? ⟨w.heap.size, 0, none⟩ = some (.int .u8 x.w) ∧ w'.cell? ⟨w.heap.size, 1, none⟩ = some (.int .u8 x.h) ∧ w'.cell? ⟨w.heap.size, 2, none⟩ = some (.int .u8 x.cut) ∧ w'.cell? ⟨w.heap.size, 6, none⟩ = some (.int .u8 (x.f 0)) ∧ w'.cell? ⟨w.heap.size, 7, none⟩ = some (.int .u8 (x.f 1))) (by as_aux_lemma => kernel_rfl) ⟨r0, r1, r2, r6, r7⟩ (fun hHeld => ?_);refine TKA 0 ?_;(try simp only [pS]);refine TKA 1 ?_;(try simp only [pS])
   refine TKA 2 ?_;(try simp only [pS]);refine TKA 3 ?_;(try simp only [pS]);refine TKA 4 ?_;(try simp only [pS]);refine TKA 5 ?_;(try simp only [pS]);refine TKA 7 ?_;(try simp only [pS]);refine TKA 8 ?_;(try simp only [pS]);refine TKA 9 ?_;(try simp only [pS]);refine TKA 10 ?_;(try simp only [pS]);refine TKA 11 ?_;(try simp only [pS]);refine TKA 12 ?_;(try simp only [pS]);refine TKA 13 ?_;(try simp only [pS]);refine TKA 14 ?_;(try simp only [pS]);refine TKA 15 ?_;(try simp only [pS]);refine TKA 16 ?_;(try simp only [pS]);refine wpAnyH_ready (rs := [6, 18]) (by as_aux_lemma => kernel_rfl) (by simp) ?_;refine AC (fun K hK => ?_) (AC (fun K hK => ?_) AllReadyH.nil)
   · refine step_call_g rfl 31 _ _ #[.int .u8 x.w, .int .u8 x.h, .int .u8 x.cut] rfl rfl (enters_of Tryz.func31 (by as_aux_lemma => kernel_rfl) rfl) ((HM.out w0.drew).mono ?_)
     rintro e w1 ⟨on, ot, rfl, hO, hb1⟩;have hb1' : Below w0.heap.size w0 w1 := below_step ((Below.refl _ w0).drew) hb1;refine ⟨_, rfl, hK.out _ _ ⟨cell_keep hb1' r0, cell_keep hb1' r1, cell_keep hb1' r2, cell_keep hb1' r6, cell_keep hb1' r7⟩ (fun hS => ?_)⟩;clear hK K hHeld;(try simp only [pS]);obtain ⟨an, cn, at_, ct, rfl, rfl, _⟩ := hO.held;refine TKA 17 ?_;(try simp only [pS]);refine wpAnyH_ready (rs := [18]) (by as_aux_lemma => kernel_rfl) (by simp) ?_;refine AC (fun K hK => ?_) AllReadyH.nil;go_simp;refine hK.out _ _ ⟨cell_alloc_keep hS.1 _, cell_alloc_keep hS.2.1 _, cell_alloc_keep hS.2.2.1 _, cell_alloc_keep hS.2.2.2.1 _, cell_alloc_keep hS.2.2.2.2 _⟩ (fun hS2 => ?_);clear hK K;(try simp only [pS]);refine wpAnyH_ready (rs := [19]) (by as_aux_lemma => kernel_rfl) (by simp) ?_;refine AC (fun K hK => ?_) AllReadyH.nil;go_simp
     refine hK.out _ _ ⟨cell_alloc_keep hS.1 _, cell_alloc_keep hS.2.1 _, cell_alloc_keep hS.2.2.1 _, cell_alloc_keep hS.2.2.2.1 _, cell_alloc_keep hS.2.2.2.2 _⟩ (fun hS3 => ?_);clear hK K;(try simp only [pS]);refine wpAnyH_done (by as_aux_lemma => kernel_rfl) ?_ _
     go_wp2_with fail; go_meet
     refine ⟨w1.heap.size, .slice an (madeB x.w x.h x.cut).next.length cn, .slice at_ (madeB x.w x.h x.cut).turn.length ct, rfl, ⟨?_, ?_⟩, below_alloc hb1' _, hb1'.size⟩
     · rw [HG.out]; exact World.alloc_heap_new _ _
     · rw [HG.out]; exact ⟨hO.below (below_alloc (Below.refl _ _) _), OwnK.nil _ _, World.ownsRow_nil _ _ _ _⟩
   · go_simp
     refine hK.out _ _ ⟨cell_alloc_keep hHeld.1 _, cell_alloc_keep hHeld.2.1 _, cell_alloc_keep hHeld.2.2.1 _, cell_alloc_keep hHeld.2.2.2.1 _, cell_alloc_keep hHeld.2.2.2.2 _⟩ (fun hS => ?_);clear hK K;(try simp only [pS]);have kB : ((w0.alloc (.cells #[.int .i64 0, .slice none 0 0, .slice none 0 0, .slice none 0 0, .int .i64 0, .bool false, .slice none 0 0, .int .i64 0, .int .i64 0] 38)).drew).heap[w0.heap.size]? = some (.cells #[.int .i64 0, .slice none 0 0, .slice none 0 0, .slice none 0 0, .int .i64 0, .bool false, .slice none 0 0, .int .i64 0, .int .i64 0] 38 (0, 0)) := World.alloc_heap_new w0 _
     have hbB : Below w0.heap.size w0 ((w0.alloc (.cells #[.int .i64 0, .slice none 0 0, .slice none 0 0, .slice none 0 0, .int .i64 0, .bool false, .slice none 0 0, .int .i64 0, .int .i64 0] 38)).drew) := by exact BLW
     have hsB : w0.heap.size < ((w0.alloc (.cells #[.int .i64 0, .slice none 0 0, .slice none 0 0, .slice none 0 0, .int .i64 0, .bool false, .slice none 0 0, .int .i64 0, .int .i64 0] 38)).drew).heap.size := by
       have : ((w0.alloc (.cells #[.int .i64 0, .slice none 0 0, .slice none 0 0, .slice none 0 0, .int .i64 0, .bool false, .slice none 0 0, .int .i64 0, .int .i64 0] 38)).drew).heap.size = w0.heap.size + 1 := by simp [World.drew]
       omega
     refine wpAnyH_ready (rs := [6]) (by as_aux_lemma => kernel_rfl) (by simp) ?_;refine AC (fun K hK => ?_) AllReadyH.nil;generalize (w0.alloc (.cells #[.int .i64 0, .slice none 0 0, .slice none 0 0, .slice none 0 0, .int .i64 0, .bool false, .slice none 0 0, .int .i64 0, .int .i64 0] 38)).drew = wB at *;refine step_call_g rfl 31 _ _ #[.int .u8 x.w, .int .u8 x.h, .int .u8 x.cut] rfl rfl (enters_of Tryz.func31 (by as_aux_lemma => kernel_rfl) rfl) ((HM.out wB).mono ?_);rintro e w1 ⟨on, ot, rfl, hO, hb1⟩;have hb1' : Below w0.heap.size w0 w1 := hbB.trans (hb1.mono (by omega));refine ⟨_, rfl, hK.out _ _ ⟨cell_keep hb1' r0, cell_keep hb1' r1, cell_keep hb1' r2, cell_keep hb1' r6, cell_keep hb1' r7⟩ (fun hS1 => ?_)⟩;clear hK K hHeld hS;(try simp only [pS]);obtain ⟨an, cn, at_, ct, rfl, rfl, _⟩ := hO.held;refine TKA 17 ?_;(try simp only [pS])
     have k1 := (hb1.block w0.heap.size hsB).trans kB;have s1 := hb1.size;have y0 := cells_raw k1 0 rfl;have y1 := cells_raw k1 1 rfl;have y2 := cells_raw k1 2 rfl;have y3 := cells_raw k1 3 rfl;have y4 := cells_raw k1 4 rfl;have y5 := cells_raw k1 5 rfl;have y6 := cells_raw k1 6 rfl;have y7 := cells_raw k1 7 rfl;have y8 := cells_raw k1 8 rfl;have f0 := cells_thaw k1 0;have f1 := cells_thaw k1 1;have f2 := cells_thaw k1 2;have f3 := cells_thaw k1 3;have f4 := cells_thaw k1 4;have f5 := cells_thaw k1 5;have f6 := cells_thaw k1 6;have f7 := cells_thaw k1 7;have f8 := cells_thaw k1 8;refine wpAnyH_ready (rs := [19]) (by as_aux_lemma => kernel_rfl) (by simp) ?_;refine AC (fun K hK => ?_) AllReadyH.nil;go_simp
     obtain ⟨kS, al⟩ := set9 (.int .i64 (madeB x.w x.h x.cut).cells) (.slice an (madeB x.w x.h x.cut).next.length cn) (.slice at_ (madeB x.w x.h x.cut).turn.length ct) (.slice none 0 0) (.int .i64 z0) (.bool z2) (.slice none 0 0) (.int .i64 3) (.int .i64 2) k1;have hbS := hb1'.trans (al.below hb1'.size (fun k hk => by omega));have hOS := (hO.low (m := w0.heap.size + 1) (by omega)).off al (fun k hk => .inl (by omega));refine hK.out _ _ ⟨cell_keep hbS r0, cell_keep hbS r1, cell_keep hbS r2, cell_keep hbS r6, cell_keep hbS r7⟩ (fun hSX => ?_);clear hK K;refine wpAnyH_done (by as_aux_lemma => kernel_rfl) ?_ _
     go_wp2_with fail; go_meet
     refine ⟨w0.heap.size, .slice an (madeB x.w x.h x.cut).next.length cn, .slice at_ (madeB x.w x.h x.cut).turn.length ct, rfl, ⟨?_, ?_⟩, hbS, Nat.le_refl _⟩
     · rw [HG.out]; exact kS
     · rw [HG.out]; exact ⟨hOS.low (by omega), OwnK.nil _ _, World.ownsRow_nil _ _ _ _⟩
 case rest =>
   obtain ⟨G, on, ot, rfl, hG, hbw, hGle⟩ := hcut;obtain ⟨an, cn, rfl⟩ := next_of hG;generalize wc = wX at *;have hRX := (hbw.block w.heap.size (by omega)).trans hR0;have hlX := hbw.size;have q3 := cells_raw hRX 3 rfl;have q4 := cells_raw hRX 4 rfl;go_upto_if 32 with (fail);clear q3 q4
   go_cut [4] (fun s4 wy => s4 = .int .i64 ((kindN x : Nat) : Int) ∧ wy = wX)
   case first =>
     have hk : kindN x = if 0 < x.k1.length then 2 else 1 := rfl
     by_cases h1 : 0 < x.k1.length
     · rw [if_pos h1] at hk
       have t1 : decide (0 < (x.k1.length : Int)) = true := by simp; omega
       have t2 : decide (0 < x.k1.length) = true := by simpa using h1
       have HK := Lib.hid hk;clear hk;go_wp2
       go_meet
       case rel => exact ⟨by rw [HK.out]; rfl, rfl⟩
     · rw [if_neg h1] at hk
       have t1 : decide (0 < (x.k1.length : Int)) = false := by simpa using h1
       have t2 : decide (0 < x.k1.length) = false := by simpa using h1
       have HK := Lib.hid hk;clear hk;go_wp2
       go_meet
       case rel => exact ⟨by rw [HK.out]; rfl, rfl⟩
   case rest =>
     obtain ⟨rfl, rfl⟩ := hcut
     have hkn : kindN x = 1 ∨ kindN x = 2 := by unfold kindN; split <;> omega
     go_upto_block 0 with (fail)
     go_cut [5, 6, 7] (fun _ _ _ wy => ∃ kv, GBox w0.heap.size G wy (.slice an 8 cn) ot kv (.slice none 0 0) (gamK x (kindN x)) ∧ Below w0.heap.size w0 wy)
     case first =>
       refine kinds_any x a0 a1 a2 c0 c1 c2 N G cn an ot w w0 _ _ _ _ _ _ _ _ _ _ _ _ _ _ _ _ _ _ _ _ _ _ _ _ _ _ _ _ _ _ _ _ _ _ _ _ _ _ _ _ _ _ _ _ _ _ _ _ _ _ _ _ _ _ _ _ _ _ _ _ _ _ _ _ _ _ _ _ _ _ _ _ _ _ _ _ _ _ _ _ _ _ _ _ _ _ _ _ _ _ _ _ _ _ _ _ _ _ _ _ _ _ _ _ _ _ _ _ _ _ _ _ _ _ _ _ _ _ _ _ _ _ _ _ _ _ _ _ _ _ _ _ _ _ _ _ _ _ _ _ _ _ _ _ _ _ _ _ _ _ _ _ _ _ _ _ _ _ _ _ _ _ _ _ _ _ _ _ _ _ _ _ _ _ _ _ _ _ _ _ _ _ _ _ _ _ _ _ _ (fun c a d v w h => by cases d <;> exact h) bf hR0 hs0 hI0 hN0 hGle hG hbw (Lib.hid ?_)
       intro s5 s6 s7 s33 s34 s35 s36 s37 s38 s39 s40 s41 s42 s43 s44 s45 s46 s47 s48 s49 s50 s51 s52 s53 s54 s55 s56 s57 s58 s59 s60 s61 s62 s63 s64 s65 s66 s67 s68 s69 s70 s71 s72 s73 s74 s75 s76 s77 s78 s79 s80 s81 s82 s83 s84 s85 s86 s87 s88 kv w' h1 h2
       go_wp2_with fail
       go_meet
       case rel => exact ⟨kv, h1, h2⟩
     case rest =>
       obtain ⟨kv, hG, hbw⟩ := hcut;clear hRX hlX;generalize wc = w4 at *;have hRX := (hbw.block w.heap.size (by omega)).trans hR0;have hlX := hbw.size;have q9 := cells_raw hRX 9 rfl;have b3 := bf 3;have e1 : ((x.f 3 : Nat) : Int).tmod 4 = ((x.f 3 % 4 : Nat) : Int) := rfl;have l1 := Nat.mod_lt (x.f 3) (show 0 < 4 by omega)
       have e4 : (((x.f 3 % 4 : Nat) : Int) == 3) = decide (x.f 3 % 4 = 3) := by rw [Bool.eq_iff_iff]; simp; omega
       obtain ⟨d, hd⟩ : ∃ d, decide (x.f 3 % 4 = 3) = d := ⟨_, rfl⟩;rw [hd] at e4;have HD := Lib.hid hd;clear hd;generalize x.f 3 % 4 = z0 at e1 l1 e4;have e6 := u8_in z0 (by omega);go_upto_if 93 with (fail);clear q9 e1 e4
       go_cut [] (fun wy => GBox w0.heap.size G wy (.slice an 8 cn) ot kv (.slice none 0 0) (gamB x) ∧ Below w0.heap.size w0 wy)
       case first =>
         have HGB := Lib.hid (show gamB x = { gamK x (kindN x) with blocked := if x.f 3 % 4 = 3 then 1 + ((x.f 3 / 4 % 3 : Nat) : Int) else 3 } from rfl)
         cases d with
         | true =>
           have q9 := cells_raw hRX 9 rfl;have g7 := cells_raw hG.box 7 rfl;have f7 := cells_thaw hG.box 7;have HG := Lib.hid hG;clear hG hRX
           go_wp2_with fail
           go_meet
           case rel =>
             obtain ⟨r1, r2⟩ := setNum (j := 7) (v := .int .i64 (1 + ↑(x.f 3) / 4 % 3)) (g' := gamB x) HG.out hGle hbw.size (by have := of_decide_eq_true HD.out; rw [HGB.out, if_pos this]; simp [GamS.cells]) (by rw [HGB.out]) (by rw [HGB.out]) (by rw [HGB.out])
             exact ⟨r1, hbw.trans r2⟩
         | false =>
           have hgb : gamB x = gamK x (kindN x) := by have := of_decide_eq_false HD.out; rw [HGB.out, if_neg this]; rfl
           have HGE := Lib.hid hgb;have HG := Lib.hid hG;clear hG hRX hgb
           go_wp2_with fail
           go_meet
           case rel => exact ⟨by rw [HGE.out]; exact HG.out, hbw⟩
       case rest =>
         obtain ⟨hG, hbw⟩ := hcut;clear HD;generalize wc = w7 at *;have hRX := (hbw.block w.heap.size (by omega)).trans hR0;have q10 := cells_raw hRX 10 rfl;have b4 := bf 4;have e1 : ((x.f 4 : Nat) : Int).tmod 4 = ((x.f 4 % 4 : Nat) : Int) := rfl;have l1 := Nat.mod_lt (x.f 4) (show 0 < 4 by omega)
         have e4 : (((x.f 4 % 4 : Nat) : Int) == 3) = decide (x.f 4 % 4 = 3) := by rw [Bool.eq_iff_iff]; simp; omega
         obtain ⟨d, hd⟩ : ∃ d, decide (x.f 4 % 4 = 3) = d := ⟨_, rfl⟩;rw [hd] at e4;have HD := Lib.hid hd;clear hd;generalize x.f 4 % 4 = z0 at e1 l1 e4;have e6 := u8_in z0 (by omega);go_upto_if 106 with (fail);clear q10 e1 e4
         go_cut [] (fun wy => GBox w0.heap.size G wy (.slice an 8 cn) ot kv (.slice none 0 0) (gamE x) ∧ Below w0.heap.size w0 wy)
         case first =>
           have HGB := Lib.hid (show gamE x = { gamB x with endless := if x.f 4 % 4 = 3 then 1 + ((x.f 4 / 4 % 3 : Nat) : Int) else 2 } from rfl)
           cases d with
           | true =>
             have q10 := cells_raw hRX 10 rfl;have g8 := cells_raw hG.box 8 rfl;have f8 := cells_thaw hG.box 8;have HG := Lib.hid hG;clear hG hRX
             go_wp2_with fail
             go_meet
             case rel =>
               obtain ⟨r1, r2⟩ := setNum (j := 8) (v := .int .i64 (1 + ↑(x.f 4) / 4 % 3)) (g' := gamE x) HG.out hGle hbw.size (by have := of_decide_eq_true HD.out; rw [HGB.out, if_pos this]; simp [GamS.cells]) (by rw [HGB.out]) (by rw [HGB.out]) (by rw [HGB.out])
               exact ⟨r1, hbw.trans r2⟩
           | false =>
             have hgb : gamE x = gamB x := by have := of_decide_eq_false HD.out; rw [HGB.out, if_neg this]; rfl
             have HGE := Lib.hid hgb;have HG := Lib.hid hG;clear hG hRX hgb
             go_wp2_with fail
             go_meet
             case rel => exact ⟨by rw [HGE.out]; exact HG.out, hbw⟩
         case rest =>
           obtain ⟨hG, hbw⟩ := hcut;clear HD hRX
           go_wp2_with fail
           go_loopw [8] (fun i wr => ∃ (n : Nat) (cv : Value), n ≤ x.c.length ∧ n ≤ 3 ∧ i = .int .i64 n ∧ GBox w0.heap.size G wr (.slice an 8 cn) ot kv cv (gamC x n) ∧ Below w0.heap.size w0 wr)
             (fun i _ => 3 - (intOf i).toNat)
           case atStart => exact ⟨0, _, Nat.zero_le _, Nat.zero_le _, rfl, by rw [gamC_zero]; exact hG, hbw⟩
           case round =>
             clear hG hbw;obtain ⟨n, cv, hnl, hn3, rfl, hG, hbw⟩ := hrel;generalize wr = w8 at *;have hRX := (hbw.block w.heap.size (by omega)).trans hR0;have hlX := hbw.size;have q5 := cells_raw hRX 5 rfl
             by_cases h1 : n < x.c.length
             · by_cases h2 : n < 3
               · have t1 : decide (n < x.c.length) = true := by simpa using h1
                 have t2 : decide ((n : Int) < 3) = true := by simp; omega
                 have hcA := (hI0.c.up hN0 hbw).at_ h1;have hcB := hI0.c.1 n;have hgs := gamC_succ x n h1;obtain ⟨cc, hcc⟩ : ∃ cc, x.c[n]?.getD (0, 0, 0) = cc := ⟨_, rfl⟩;rw [hcc] at hcA hcB hgs;clear hcc;obtain ⟨m0, m1, m2⟩ := cc;obtain ⟨bb, off, hab, hbN, y0, y1, y2⟩ := hcA;simp only at y0 y1 y2 hcB;obtain ⟨hm0, hm1, hm2⟩ := hcB;subst hab;have HGS := Lib.hid hgs;clear hgs;have e1 : ((m0 : Nat) : Int).tmod 3 = ((m0 % 3 : Nat) : Int) := rfl;have e2 : ((m0 : Nat) : Int).tdiv 4 = ((m0 / 4 : Nat) : Int) := rfl;have e3 : ((m0 / 4 : Nat) : Int).tmod 3 = ((m0 / 4 % 3 : Nat) : Int) := rfl;have l0 := Nat.mod_lt m0 (show 0 < 3 by omega);have l3 := Nat.mod_lt (m0 / 4) (show 0 < 3 by omega)
                 have l4 : m0 / 4 ≤ 63 := by omega
                 have HCL := Lib.hid (show clauseS x (m0, m1, m2) = (1 + ((m0 % 3 : Nat) : Int), (if 1 + m0 % 3 ≠ 3 then ((m1 % kindN x : Nat) : Int) else 0), (if 1 + m0 % 3 = 2 then ((m2 : Int) % x.board.cells) else if 1 + m0 % 3 = 3 then ((m2 % 3 : Nat) : Int) else 0), 1 + ((m0 / 4 % 3 : Nat) : Int)) from rfl);generalize m0 % 3 = A at *;generalize m0 / 4 % 3 = D at *;generalize m0 / 4 = D4 at *;have i1 : IntKind.i64.wrap ((A : Nat) : Int) = (A : Int) := IntWalk.i64_in _ (by omega);have i2 : IntKind.i64.wrap (1 + (A : Int)) = 1 + (A : Int) := IntWalk.i64_in _ (by omega);have i3 : IntKind.i64.wrap ((D : Nat) : Int) = (D : Int) := IntWalk.i64_in _ (by omega);have i4 : IntKind.i64.wrap (1 + (D : Int)) = 1 + (D : Int) := IntWalk.i64_in _ (by omega);have i5 := u8_in D4 (by omega);have i6 : IntKind.i64.wrap ((D4 : Nat) : Int) = (D4 : Int) := IntWalk.i64_in _ (by omega)
                 have i7 : IntKind.i64.wrap ((m0 : Nat) : Int) = (m0 : Int) := IntWalk.i64_in _ (by omega)
                 have t3 : (0 : Int) ≤ (n : Int) := by omega
                 have t4 : (n : Int) < (x.c.length : Int) := by omega
                 go_upto_region 21 with (fail);refine wp_region_held_drew (S := fun W => W.cell? ⟨w.heap.size, 5, none⟩ = some (.slice (some ⟨bb, off, none⟩) x.c.length c2) ∧ W.cell? ⟨bb, off + n * 3, none⟩ = some (.int .u8 m0)) (by as_aux_lemma => kernel_rfl) ⟨q5, y0⟩ (fun hHeld => ?_);refine TKA 0 ?_;(try simp only [pS]);refine TKA 1 ?_;(try simp only [pS]);refine TKA 2 ?_;(try simp only [pS]);refine TKA 3 ?_;(try simp only [pS]);refine TKA 4 ?_;(try simp only [pS]);refine TKA 5 ?_;(try simp only [pS]);refine TKA 6 ?_;(try simp only [pS]);refine TKA 7 ?_;(try simp only [pS]);refine TKA 8 ?_;(try simp only [pS]);refine TKA 9 ?_;(try simp only [pS]);refine TKA 10 ?_;(try simp only [pS]);refine TKA 11 ?_;(try simp only [pS]);refine TKA 12 ?_;(try simp only [pS]);refine TKA 13 ?_;(try simp only [pS]);refine TKA 14 ?_;(try simp only [pS]);refine TKA 15 ?_
                 (try simp only [pS]);refine TKA 16 ?_;(try simp only [pS]);refine TKA 17 ?_;(try simp only [pS]);refine TKA 18 ?_;(try simp only [pS]);refine TKA 19 ?_;(try simp only [pS]);refine wpAnyH_ready (rs := [20]) (by as_aux_lemma => kernel_rfl) (by simp) ?_;refine AC (fun K hK => ?_) AllReadyH.nil;go_simp;refine hK.out _ _ ⟨cell_alloc_keep hHeld.1 _, cell_alloc_keep hHeld.2 _⟩ (fun hS2 => ?_);clear hK K;(try simp only [pS]);refine wpAnyH_ready (rs := [21]) (by as_aux_lemma => kernel_rfl) (by simp) ?_;refine AC (fun K hK => ?_) AllReadyH.nil;go_simp;refine hK.out _ _ ⟨cell_alloc_keep hHeld.1 _, cell_alloc_keep hHeld.2 _⟩ (fun _ => ?_);clear hK K hHeld hS2;(try simp only [pS]);refine wpAnyH_done (by as_aux_lemma => kernel_rfl) ?_ _
                 have hb89 : Below w8.heap.size w8 (w8.alloc (.cells #[.int .i64 (1 + (A : Int)), .int .i64 0, .int .i64 0, .int .i64 (1 + (D : Int))] 70)).drew := by exact BLW
                 have kC : (w8.alloc (.cells #[.int .i64 (1 + (A : Int)), .int .i64 0, .int .i64 0, .int .i64 (1 + (D : Int))] 70)).drew.heap[w8.heap.size]? = some (.cells #[.int .i64 (1 + (A : Int)), .int .i64 0, .int .i64 0, .int .i64 (1 + (D : Int))] 70 (0, 0)) := heap_new_at _ _ rfl;generalize (w8.alloc (.cells #[.int .i64 (1 + (A : Int)), .int .i64 0, .int .i64 0, .int .i64 (1 + (D : Int))] 70)).drew = w9 at *;have hC9 := (Array.getElem?_eq_some_iff.1 kC).1;have hG9 := hG.below hb89;have hbw9 := hbw.trans (hb89.mono hlX);have hl8 := hG.lt;have q59 := cell_keep hb89 q5;have y09 := cell_keep hb89 y0;have y19 := cell_keep hb89 y1;have y29 := cell_keep hb89 y2;have gb : w9.cell? ⟨G, 0, none⟩ = some (.int .i64 x.board.cells) := cells_raw hG9.box 0 rfl;have gc : w9.cell? ⟨G, 6, none⟩ = some cv := cells_raw hG9.box 6 rfl;have hbc := board_cells x
                 have kf0 := cells_thaw kC 0;have kf1 := cells_thaw kC 1;have kf2 := cells_thaw kC 2;have kf3 := cells_thaw kC 3;have k1 : w9.cell? ⟨w8.heap.size, 1, none⟩ = some (.int .i64 0) := cells_raw kC 1 rfl;have k2 : w9.cell? ⟨w8.heap.size, 2, none⟩ = some (.int .i64 0) := cells_raw kC 2 rfl;have k3 : w9.cell? ⟨w8.heap.size, 3, none⟩ = some (.int .i64 (1 + (D : Int))) := cells_raw kC 3 rfl
                 have hcl : (gamC x n).clauses.length = n := by
                   show ((x.c.take n).map (clauseS x)).length = n
                   simp; omega
                 have HG8 := Lib.hid hG;have HB89 := Lib.hid hb89;have HBW := Lib.hid hbw;have HCLN := Lib.hid hcl;have HKC := Lib.hid kC;clear kC y0 y1 y2 hG hG9 hcl q5 hb89 hbw e1 e2 e3 i1 i2 i3 i4 i5 i6 i7 hRX t1 t2
                 rcases (show A = 0 ∨ A = 1 ∨ A = 2 by omega) with rfl | rfl | rfl
                 · have k0 : w9.cell? ⟨w8.heap.size, 0, none⟩ = some (.int .i64 1) := cells_raw HKC.out 0 rfl
                   clear l0;go_upto_region 28 with (fail);have hX : (w9.setCell ⟨w8.heap.size, 1, none⟩ (.int .i64 (↑m1 % ↑(kindN x)))).heap[w8.heap.size]? = some (.cells #[.int .i64 (1), .int .i64 ((m1 : Int) % (kindN x : Nat)), .int .i64 (0), .int .i64 (1 + (D : Int))] 70 (0, 0)) := heap_set _ HKC.out;have hA : Alters (fun k => k = w8.heap.size) w9 (w9.setCell ⟨w8.heap.size, 1, none⟩ (.int .i64 (↑m1 % ↑(kindN x)))) := alters_cell _ _ _ _;have hA8 : Alters (fun k => k = w8.heap.size) w8 (w9.setCell ⟨w8.heap.size, 1, none⟩ (.int .i64 (↑m1 % ↑(kindN x)))) := (Alters.of_below HB89.out).trans hA;have hGX : GBox w0.heap.size G (w9.setCell ⟨w8.heap.size, 1, none⟩ (.int .i64 (↑m1 % ↑(kindN x)))) (.slice an 8 cn) ot kv cv (gamC x n) := ⟨(hA8.block G hl8 (by omega)).trans HG8.out.box, HG8.out.own.off hA8 (fun k hk => off_new (by omega))⟩
                   have hbX : Below w0.heap.size w0 (w9.setCell ⟨w8.heap.size, 1, none⟩ (.int .i64 (↑m1 % ↑(kindN x)))) := HBW.out.trans (hA8.below hlX (fun k hk => by omega));clear q59 y09 y19 y29 gb gc kf0 kf1 kf2 kf3 k0 k1 k2 k3 hA hA8;generalize (w9.setCell ⟨w8.heap.size, 1, none⟩ (.int .i64 (↑m1 % ↑(kindN x)))) = wX at *;have hrowA := ownsRow_off hGX.own.clauses (S := fun _ => False) (Alters.of_below (below_alloc (Below.refl _ wX) (.cells #[.int .i64 (1), .int .i64 ((m1 : Int) % (kindN x : Nat)), .int .i64 (0), .int .i64 (1 + (D : Int))] 70))) (fun _ h => h.elim);rw [HCLN.out] at hrowA;have HROWA := Lib.hid hrowA;have HROW := Lib.hid hGX.own.clauses;have HONE := Lib.hid (show ∀ u ∈ [Value.int .i64 (1), .int .i64 ((m1 : Int) % (kindN x : Nat)), .int .i64 (0), .int .i64 (1 + (D : Int))], u.oneCell' = true by simp [Value.oneCell']);have HGX := Lib.hid hGX
                   have HBX := Lib.hid hGX.box;have HHL := Lib.hid hbX.size;have x0 : wX.cell? ⟨w8.heap.size, 0, none⟩ = some (.int .i64 (1)) := cells_raw hX 0 rfl;have x1 : wX.cell? ⟨w8.heap.size, 1, none⟩ = some (.int .i64 ((m1 : Int) % (kindN x : Nat))) := cells_raw hX 1 rfl;have x2 : wX.cell? ⟨w8.heap.size, 2, none⟩ = some (.int .i64 (0)) := cells_raw hX 2 rfl;have x3 : wX.cell? ⟨w8.heap.size, 3, none⟩ = some (.int .i64 (1 + (D : Int))) := cells_raw hX 3 rfl;have gc : wX.cell? ⟨G, 6, none⟩ = some cv := cells_raw hGX.box 6 rfl
                   have HFIN := Lib.hid (show gamC x (n + 1) = { gamC x n with clauses := (gamC x n).clauses ++ [(1, (m1 : Int) % (kindN x : Nat), 0, 1 + (D : Int))] } by rw [HGS.out, HCL.out]; simp)
                   clear hrowA hX hGX
                   go_wp2_with (at_builtin; go_loud (refine wpList_pushG rfl 36 70 (.agg #[.int .i64 0, .int .i64 0, .int .i64 0, .int .i64 0]) 4 32 Tryz.underlying36 info_clause rfl (by decide) (by decide) (.tmp 187) (.tmp 189) rfl w0.heap.size cv n _ rfl HROWA.out (by omega) (by simp; have := HHL.out; omega) wX.heap.size 1 [.int .i64 (1), .int .i64 ((m1 : Int) % (kindN x : Nat)), .int .i64 (0), .int .i64 (1 + (D : Int))] rfl rfl (World.alloc_heap_new _ _) HONE.out ?_; intro gk ck' w10 hown10 hg10; have HB10 := box_pushed HROW.out HBX.out (by decide) hg10; have z1 := cells_raw HB10 6 rfl; have z2 := cells_thaw HB10 6; clear HB10))
                   obtain ⟨r1, r2⟩ := addClause (c := (1, (m1 : Int) % (kindN x : Nat), 0, 1 + (D : Int))) HGX.out hGle HHL.out hg10 (by rw [HCLN.out]; exact hown10)
                   rw [← HFIN.out] at r1;have r3 := hbX.trans r2;clear z1 z2
                   go_roundw
                   case rel => exact ⟨n + 1, _, by omega, by omega, by go_num, r1, r3⟩
                   case measure => simp [intOf]; omega
                 · have k0 : w9.cell? ⟨w8.heap.size, 0, none⟩ = some (.int .i64 2) := cells_raw HKC.out 0 rfl
                   clear l0;have d0 : 0 ≤ (m2 : Int) % x.board.cells := Int.emod_nonneg _ (by omega);have d1 : (m2 : Int) % x.board.cells < x.board.cells := Int.emod_lt_of_pos _ (by omega);have d2 : ((m2 : Nat) : Int).tmod x.board.cells = (m2 : Int) % x.board.cells := Int.tmod_eq_emod_of_nonneg (by omega);have d3 : IntKind.i64.wrap ((m2 : Int) % x.board.cells) = (m2 : Int) % x.board.cells := IntWalk.i64_in _ (by omega)
                   have d5 : (x.board.cells == 0) = false := by simp; omega
                   have d6 : ¬ (x.board.cells = 0) := by omega
                   have d7 : IntKind.i64.wrap ((m2 : Nat) : Int) = (m2 : Int) := IntWalk.i64_in _ (by omega);generalize (m2 : Int) % x.board.cells = ym at *;go_upto_region 25 with (fail);refine wp_region_held_drew (S := fun W => W.cell? ⟨w.heap.size, 5, none⟩ = some (.slice (some ⟨bb, off, none⟩) x.c.length c2) ∧ W.cell? ⟨bb, off + n * 3 + 2, none⟩ = some (.int .u8 m2) ∧ W.cell? ⟨G, 0, none⟩ = some (.int .i64 x.board.cells)) (by as_aux_lemma => kernel_rfl) ⟨?_, ?_, ?_⟩ (fun hHeld => ?_)
                   · exact (World.cell?_setCell_far _ _ _ _ (by simp; omega)).trans q59
                   · exact (World.cell?_setCell_far _ _ _ _ (by simp; omega)).trans y29
                   · exact (World.cell?_setCell_far _ _ _ _ (by simp; omega)).trans gb
                   refine TKA 0 ?_;(try simp only [pS]);refine TKA 1 ?_;(try simp only [pS]);refine TKA 2 ?_;(try simp only [pS]);refine TKA 3 ?_;(try simp only [pS]);refine TKA 4 ?_;(try simp only [pS]);refine TKA 5 ?_;(try simp only [pS]);refine TKA 6 ?_;(try simp only [pS]);refine TKA 7 ?_;(try simp only [pS]);refine TKA 8 ?_;(try simp only [pS]);refine TKA 9 ?_;(try simp only [pS]);refine TKA 10 ?_;(try simp only [pS]);refine TKA 11 ?_;(try simp only [pS]);refine wpAnyH_ready (rs := [12]) (by as_aux_lemma => kernel_rfl) (by simp) ?_;refine AC (fun K hK => ?_) AllReadyH.nil;go_simp
                   refine hK.out _ _ ⟨(World.cell?_setCell_far _ _ _ _ (by simp; omega)).trans hHeld.1, (World.cell?_setCell_far _ _ _ _ (by simp; omega)).trans hHeld.2.1, (World.cell?_setCell_far _ _ _ _ (by simp; omega)).trans hHeld.2.2⟩ (fun _ => ?_)
                   clear hK K hHeld;(try simp only [pS]);refine wpAnyH_done (by as_aux_lemma => kernel_rfl) ?_ _;go_upto_region 28 with (fail);have hX : ((w9.setCell ⟨w8.heap.size, 1, none⟩ (.int .i64 (↑m1 % ↑(kindN x)))).setCell ⟨w8.heap.size, 2, none⟩ (.int .i64 ym)).drew.heap[w8.heap.size]? = some (.cells #[.int .i64 (2), .int .i64 ((m1 : Int) % (kindN x : Nat)), .int .i64 (ym), .int .i64 (1 + (D : Int))] 70 (0, 0)) := heap_set _ (heap_set _ HKC.out);have hA : Alters (fun k => k = w8.heap.size) w9 ((w9.setCell ⟨w8.heap.size, 1, none⟩ (.int .i64 (↑m1 % ↑(kindN x)))).setCell ⟨w8.heap.size, 2, none⟩ (.int .i64 ym)).drew := Alters.drew_ ((alters_cell _ _ _ _).trans (alters_cell _ _ _ _))
                   have hA8 : Alters (fun k => k = w8.heap.size) w8 ((w9.setCell ⟨w8.heap.size, 1, none⟩ (.int .i64 (↑m1 % ↑(kindN x)))).setCell ⟨w8.heap.size, 2, none⟩ (.int .i64 ym)).drew := (Alters.of_below HB89.out).trans hA;have hGX : GBox w0.heap.size G ((w9.setCell ⟨w8.heap.size, 1, none⟩ (.int .i64 (↑m1 % ↑(kindN x)))).setCell ⟨w8.heap.size, 2, none⟩ (.int .i64 ym)).drew (.slice an 8 cn) ot kv cv (gamC x n) := ⟨(hA8.block G hl8 (by omega)).trans HG8.out.box, HG8.out.own.off hA8 (fun k hk => off_new (by omega))⟩;have hbX : Below w0.heap.size w0 ((w9.setCell ⟨w8.heap.size, 1, none⟩ (.int .i64 (↑m1 % ↑(kindN x)))).setCell ⟨w8.heap.size, 2, none⟩ (.int .i64 ym)).drew := HBW.out.trans (hA8.below hlX (fun k hk => by omega));clear q59 y09 y19 y29 gb gc kf0 kf1 kf2 kf3 k0 k1 k2 k3 hA hA8
                   generalize ((w9.setCell ⟨w8.heap.size, 1, none⟩ (.int .i64 (↑m1 % ↑(kindN x)))).setCell ⟨w8.heap.size, 2, none⟩ (.int .i64 ym)).drew = wX at *;have hrowA := ownsRow_off hGX.own.clauses (S := fun _ => False) (Alters.of_below (below_alloc (Below.refl _ wX) (.cells #[.int .i64 (2), .int .i64 ((m1 : Int) % (kindN x : Nat)), .int .i64 (ym), .int .i64 (1 + (D : Int))] 70))) (fun _ h => h.elim);rw [HCLN.out] at hrowA;have HROWA := Lib.hid hrowA;have HROW := Lib.hid hGX.own.clauses;have HONE := Lib.hid (show ∀ u ∈ [Value.int .i64 (2), .int .i64 ((m1 : Int) % (kindN x : Nat)), .int .i64 (ym), .int .i64 (1 + (D : Int))], u.oneCell' = true by simp [Value.oneCell']);have HGX := Lib.hid hGX;have HBX := Lib.hid hGX.box;have HHL := Lib.hid hbX.size;have x0 : wX.cell? ⟨w8.heap.size, 0, none⟩ = some (.int .i64 (2)) := cells_raw hX 0 rfl
                   have x1 : wX.cell? ⟨w8.heap.size, 1, none⟩ = some (.int .i64 ((m1 : Int) % (kindN x : Nat))) := cells_raw hX 1 rfl;have x2 : wX.cell? ⟨w8.heap.size, 2, none⟩ = some (.int .i64 (ym)) := cells_raw hX 2 rfl;have x3 : wX.cell? ⟨w8.heap.size, 3, none⟩ = some (.int .i64 (1 + (D : Int))) := cells_raw hX 3 rfl;have gc : wX.cell? ⟨G, 6, none⟩ = some cv := cells_raw hGX.box 6 rfl
                   have HFIN := Lib.hid (show gamC x (n + 1) = { gamC x n with clauses := (gamC x n).clauses ++ [(2, (m1 : Int) % (kindN x : Nat), ym, 1 + (D : Int))] } by rw [HGS.out, HCL.out]; simp)
                   clear hrowA hX hGX
                   go_wp2_with (at_builtin; go_loud (refine wpList_pushG rfl 36 70 (.agg #[.int .i64 0, .int .i64 0, .int .i64 0, .int .i64 0]) 4 32 Tryz.underlying36 info_clause rfl (by decide) (by decide) (.tmp 187) (.tmp 189) rfl w0.heap.size cv n _ rfl HROWA.out (by omega) (by simp; have := HHL.out; omega) wX.heap.size 1 [.int .i64 (2), .int .i64 ((m1 : Int) % (kindN x : Nat)), .int .i64 (ym), .int .i64 (1 + (D : Int))] rfl rfl (World.alloc_heap_new _ _) HONE.out ?_; intro gk ck' w10 hown10 hg10; have HB10 := box_pushed HROW.out HBX.out (by decide) hg10; have z1 := cells_raw HB10 6 rfl; have z2 := cells_thaw HB10 6; clear HB10))
                   obtain ⟨r1, r2⟩ := addClause (c := (2, (m1 : Int) % (kindN x : Nat), ym, 1 + (D : Int))) HGX.out hGle HHL.out hg10 (by rw [HCLN.out]; exact hown10)
                   rw [← HFIN.out] at r1;have r3 := hbX.trans r2;clear z1 z2
                   go_roundw
                   case rel => exact ⟨n + 1, _, by omega, by omega, by go_num, r1, r3⟩
                   case measure => simp [intOf]; omega
                 · have k0 : w9.cell? ⟨w8.heap.size, 0, none⟩ = some (.int .i64 3) := cells_raw HKC.out 0 rfl
                   clear l0;go_upto_region 28 with (fail);have hX : (w9.setCell ⟨w8.heap.size, 2, none⟩ (.int .i64 (↑m2 % 3))).heap[w8.heap.size]? = some (.cells #[.int .i64 (3), .int .i64 (0), .int .i64 ((m2 : Int) % 3), .int .i64 (1 + (D : Int))] 70 (0, 0)) := heap_set _ HKC.out;have hA : Alters (fun k => k = w8.heap.size) w9 (w9.setCell ⟨w8.heap.size, 2, none⟩ (.int .i64 (↑m2 % 3))) := alters_cell _ _ _ _;have hA8 : Alters (fun k => k = w8.heap.size) w8 (w9.setCell ⟨w8.heap.size, 2, none⟩ (.int .i64 (↑m2 % 3))) := (Alters.of_below HB89.out).trans hA;have hGX : GBox w0.heap.size G (w9.setCell ⟨w8.heap.size, 2, none⟩ (.int .i64 (↑m2 % 3))) (.slice an 8 cn) ot kv cv (gamC x n) := ⟨(hA8.block G hl8 (by omega)).trans HG8.out.box, HG8.out.own.off hA8 (fun k hk => off_new (by omega))⟩
                   have hbX : Below w0.heap.size w0 (w9.setCell ⟨w8.heap.size, 2, none⟩ (.int .i64 (↑m2 % 3))) := HBW.out.trans (hA8.below hlX (fun k hk => by omega));clear q59 y09 y19 y29 gb gc kf0 kf1 kf2 kf3 k0 k1 k2 k3 hA hA8;generalize (w9.setCell ⟨w8.heap.size, 2, none⟩ (.int .i64 (↑m2 % 3))) = wX at *;have hrowA := ownsRow_off hGX.own.clauses (S := fun _ => False) (Alters.of_below (below_alloc (Below.refl _ wX) (.cells #[.int .i64 (3), .int .i64 (0), .int .i64 ((m2 : Int) % 3), .int .i64 (1 + (D : Int))] 70))) (fun _ h => h.elim);rw [HCLN.out] at hrowA;have HROWA := Lib.hid hrowA;have HROW := Lib.hid hGX.own.clauses;have HONE := Lib.hid (show ∀ u ∈ [Value.int .i64 (3), .int .i64 (0), .int .i64 ((m2 : Int) % 3), .int .i64 (1 + (D : Int))], u.oneCell' = true by simp [Value.oneCell']);have HGX := Lib.hid hGX;have HBX := Lib.hid hGX.box;have HHL := Lib.hid hbX.size
                   have x0 : wX.cell? ⟨w8.heap.size, 0, none⟩ = some (.int .i64 (3)) := cells_raw hX 0 rfl;have x1 : wX.cell? ⟨w8.heap.size, 1, none⟩ = some (.int .i64 (0)) := cells_raw hX 1 rfl;have x2 : wX.cell? ⟨w8.heap.size, 2, none⟩ = some (.int .i64 ((m2 : Int) % 3)) := cells_raw hX 2 rfl;have x3 : wX.cell? ⟨w8.heap.size, 3, none⟩ = some (.int .i64 (1 + (D : Int))) := cells_raw hX 3 rfl;have gc : wX.cell? ⟨G, 6, none⟩ = some cv := cells_raw hGX.box 6 rfl
                   have HFIN := Lib.hid (show gamC x (n + 1) = { gamC x n with clauses := (gamC x n).clauses ++ [(3, 0, (m2 : Int) % 3, 1 + (D : Int))] } by rw [HGS.out, HCL.out]; simp)
                   clear hrowA hX hGX
                   go_wp2_with (at_builtin; go_loud (refine wpList_pushG rfl 36 70 (.agg #[.int .i64 0, .int .i64 0, .int .i64 0, .int .i64 0]) 4 32 Tryz.underlying36 info_clause rfl (by decide) (by decide) (.tmp 187) (.tmp 189) rfl w0.heap.size cv n _ rfl HROWA.out (by omega) (by simp; have := HHL.out; omega) wX.heap.size 1 [.int .i64 (3), .int .i64 (0), .int .i64 ((m2 : Int) % 3), .int .i64 (1 + (D : Int))] rfl rfl (World.alloc_heap_new _ _) HONE.out ?_; intro gk ck' w10 hown10 hg10; have HB10 := box_pushed HROW.out HBX.out (by decide) hg10; have z1 := cells_raw HB10 6 rfl; have z2 := cells_thaw HB10 6; clear HB10))
                   obtain ⟨r1, r2⟩ := addClause (c := (3, 0, (m2 : Int) % 3, 1 + (D : Int))) HGX.out hGle HHL.out hg10 (by rw [HCLN.out]; exact hown10)
                   rw [← HFIN.out] at r1;have r3 := hbX.trans r2;clear z1 z2
                   go_roundw
                   case rel => exact ⟨n + 1, _, by omega, by omega, by go_num, r1, r3⟩
                   case measure => simp [intOf]; omega
               · skip
                 have t1 : decide (n < x.c.length) = true := by simpa using h1
                 have t2 : decide ((n : Int) < 3) = false := by simp; omega
                 have hpe : madeG x = gamC x n := by rw [show n = 3 by omega]; exact madeG_eq x
                 obtain ⟨g, hgg⟩ : ∃ g, g = madeG x := ⟨_, rfl⟩;rw [← hpe, ← hgg] at hG;have HGG := Lib.hid hgg;clear hpe hgg;have hZ8 := (hbw.block (w.heap.size + 1) hs0).trans hZ0;have g0 : w8.cell? ⟨G, 0, none⟩ = some (.int .i64 g.board.cells) := cells_raw hG.box 0 rfl;have g1 : w8.cell? ⟨G, 1, none⟩ = some (.slice an 8 cn) := cells_raw hG.box 1 rfl;have g2 : w8.cell? ⟨G, 2, none⟩ = some ot := cells_raw hG.box 2 rfl;have g3 : w8.cell? ⟨G, 3, none⟩ = some kv := cells_raw hG.box 3 rfl;have g4 : w8.cell? ⟨G, 4, none⟩ = some (.int .i64 g.rights) := cells_raw hG.box 4 rfl;have g5 : w8.cell? ⟨G, 5, none⟩ = some (.bool g.must) := cells_raw hG.box 5 rfl;have g6 : w8.cell? ⟨G, 6, none⟩ = some cv := cells_raw hG.box 6 rfl;have g7 : w8.cell? ⟨G, 7, none⟩ = some (.int .i64 g.blocked) := cells_raw hG.box 7 rfl
                 have g8 : w8.cell? ⟨G, 8, none⟩ = some (.int .i64 g.endless) := cells_raw hG.box 8 rfl
                 obtain ⟨at_, ct, hot⟩ : ∃ at_ ct, ot = .slice at_ g.board.turn.length ct := by
                   obtain ⟨_, _, at_, ct, _, h, _⟩ := hG.own.board.held;exact ⟨at_, ct, h⟩
                 obtain ⟨ak, ck, hkv⟩ : ∃ ak ck, kv = .slice ak g.kinds.length ck := by
                   obtain ⟨vs, _, h1, _⟩ := hG.own.kinds
                   rcases h1.2 with ⟨h, h0⟩ | ⟨gg, cap, cur, h, _⟩
                   · exact ⟨none, 0, by rw [h, h0]⟩
                   · exact ⟨_, _, h⟩
                 obtain ⟨ac, cc, hcv⟩ : ∃ ac cc, cv = .slice ac g.clauses.length cc := by
                   rcases hG.own.clauses.2 with ⟨h, h0⟩ | ⟨gg, cap, cur, h, _⟩
                   · exact ⟨none, 0, by rw [h, h0]⟩
                   · exact ⟨_, _, h⟩
                 subst hot;subst hkv;subst hcv;obtain ⟨kS, al⟩ := set9 (.int .i64 g.board.cells) (.slice an 8 cn) (.slice at_ g.board.turn.length ct) (.slice ak g.kinds.length ck) (.int .i64 g.rights) (.bool g.must) (.slice ac g.clauses.length cc) (.int .i64 g.blocked) (.int .i64 g.endless) hZ8;have hO := (hG.own.off al (fun k hk => off_low (by omega))).low (m := w.heap.size) (Nat.le_trans hb0.size (Nat.le_refl _));have hB := hb0.trans ((hbw.mono hb0.size).trans (al.below (by omega) (fun k hk => by omega)));have HO := Lib.hid hO;have HB := Lib.hid hB;have HS := Lib.hid kS;have z0 := cells_raw hZ8 0 rfl;have z1 := cells_raw hZ8 1 rfl;have z2 := cells_raw hZ8 2 rfl;have z3 := cells_raw hZ8 3 rfl;have z4 := cells_raw hZ8 4 rfl;have z5 := cells_raw hZ8 5 rfl;have z6 := cells_raw hZ8 6 rfl;have z7 := cells_raw hZ8 7 rfl;have z8 := cells_raw hZ8 8 rfl
                 have f0 := cells_thaw hZ8 0;have f1 := cells_thaw hZ8 1;have f2 := cells_thaw hZ8 2;have f3 := cells_thaw hZ8 3;have f4 := cells_thaw hZ8 4;have f5 := cells_thaw hZ8 5;have f6 := cells_thaw hZ8 6;have f7 := cells_thaw hZ8 7;have f8 := cells_thaw hZ8 8;clear hO hB kS al hZ8 hG hRX;go_wp2;refine bodyPost_ret_by (v := .agg #[.int .i64 g.board.cells, .slice an 8 cn, .slice at_ g.board.turn.length ct, .slice ak g.kinds.length ck, .int .i64 g.rights, .bool g.must, .slice ac g.clauses.length cc, .int .i64 g.blocked, .int .i64 g.endless]) (results_cell_row rfl _ _ (w.heap.size + 1) 38 _ (0, 0) _ rfl HS.out Tryz.underlying38 rfl info_game) rfl ?_;rw [← HGG.out];exact ⟨_, _, _, _, rfl, HO.out, HB.out⟩
             · skip
               have t1 : decide (n < x.c.length) = false := by simpa using h1
               have hpe : madeG x = gamC x n := by
                 rw [madeG_eq]; unfold gamC
                 rw [List.take_of_length_le (show x.c.length ≤ 3 by omega), List.take_of_length_le (show x.c.length ≤ n by omega)]
               obtain ⟨g, hgg⟩ : ∃ g, g = madeG x := ⟨_, rfl⟩;rw [← hpe, ← hgg] at hG;have HGG := Lib.hid hgg;clear hpe hgg;have hZ8 := (hbw.block (w.heap.size + 1) hs0).trans hZ0;have g0 : w8.cell? ⟨G, 0, none⟩ = some (.int .i64 g.board.cells) := cells_raw hG.box 0 rfl;have g1 : w8.cell? ⟨G, 1, none⟩ = some (.slice an 8 cn) := cells_raw hG.box 1 rfl;have g2 : w8.cell? ⟨G, 2, none⟩ = some ot := cells_raw hG.box 2 rfl;have g3 : w8.cell? ⟨G, 3, none⟩ = some kv := cells_raw hG.box 3 rfl;have g4 : w8.cell? ⟨G, 4, none⟩ = some (.int .i64 g.rights) := cells_raw hG.box 4 rfl;have g5 : w8.cell? ⟨G, 5, none⟩ = some (.bool g.must) := cells_raw hG.box 5 rfl;have g6 : w8.cell? ⟨G, 6, none⟩ = some cv := cells_raw hG.box 6 rfl;have g7 : w8.cell? ⟨G, 7, none⟩ = some (.int .i64 g.blocked) := cells_raw hG.box 7 rfl
               have g8 : w8.cell? ⟨G, 8, none⟩ = some (.int .i64 g.endless) := cells_raw hG.box 8 rfl
               obtain ⟨at_, ct, hot⟩ : ∃ at_ ct, ot = .slice at_ g.board.turn.length ct := by
                 obtain ⟨_, _, at_, ct, _, h, _⟩ := hG.own.board.held;exact ⟨at_, ct, h⟩
               obtain ⟨ak, ck, hkv⟩ : ∃ ak ck, kv = .slice ak g.kinds.length ck := by
                 obtain ⟨vs, _, h1, _⟩ := hG.own.kinds
                 rcases h1.2 with ⟨h, h0⟩ | ⟨gg, cap, cur, h, _⟩
                 · exact ⟨none, 0, by rw [h, h0]⟩
                 · exact ⟨_, _, h⟩
               obtain ⟨ac, cc, hcv⟩ : ∃ ac cc, cv = .slice ac g.clauses.length cc := by
                 rcases hG.own.clauses.2 with ⟨h, h0⟩ | ⟨gg, cap, cur, h, _⟩
                 · exact ⟨none, 0, by rw [h, h0]⟩
                 · exact ⟨_, _, h⟩
               subst hot;subst hkv;subst hcv;obtain ⟨kS, al⟩ := set9 (.int .i64 g.board.cells) (.slice an 8 cn) (.slice at_ g.board.turn.length ct) (.slice ak g.kinds.length ck) (.int .i64 g.rights) (.bool g.must) (.slice ac g.clauses.length cc) (.int .i64 g.blocked) (.int .i64 g.endless) hZ8;have hO := (hG.own.off al (fun k hk => off_low (by omega))).low (m := w.heap.size) (Nat.le_trans hb0.size (Nat.le_refl _));have hB := hb0.trans ((hbw.mono hb0.size).trans (al.below (by omega) (fun k hk => by omega)));have HO := Lib.hid hO;have HB := Lib.hid hB;have HS := Lib.hid kS;have z0 := cells_raw hZ8 0 rfl;have z1 := cells_raw hZ8 1 rfl;have z2 := cells_raw hZ8 2 rfl;have z3 := cells_raw hZ8 3 rfl;have z4 := cells_raw hZ8 4 rfl;have z5 := cells_raw hZ8 5 rfl;have z6 := cells_raw hZ8 6 rfl;have z7 := cells_raw hZ8 7 rfl;have z8 := cells_raw hZ8 8 rfl;have f0 := cells_thaw hZ8 0
               have f1 := cells_thaw hZ8 1;have f2 := cells_thaw hZ8 2;have f3 := cells_thaw hZ8 3;have f4 := cells_thaw hZ8 4;have f5 := cells_thaw hZ8 5;have f6 := cells_thaw hZ8 6;have f7 := cells_thaw hZ8 7;have f8 := cells_thaw hZ8 8;clear hO hB kS al hZ8 hG hRX;go_wp2;refine bodyPost_ret_by (v := .agg #[.int .i64 g.board.cells, .slice an 8 cn, .slice at_ g.board.turn.length ct, .slice ak g.kinds.length ck, .int .i64 g.rights, .bool g.must, .slice ac g.clauses.length cc, .int .i64 g.blocked, .int .i64 g.endless]) (results_cell_row rfl _ _ (w.heap.size + 1) 38 _ (0, 0) _ rfl HS.out Tryz.underlying38 rfl info_game) rfl ?_;rw [← HGG.out];exact ⟨_, _, _, _, rfl, HO.out, HB.out⟩
end Go.Proofs.YtbmcngoeinginaaGreatDoor
