/-
 Of the reference: Parse.
-/
import Derived.Test.YtbmcngoeinginaaGreatDoorTk
import Derived.Test.YtbmcngoeinginaaGreatDoorKGrw
import Derived.Test.YtbmcngoeinginaaGreatDoorKRdF
import Derived.Deep.DeepCutAuto
import Derived.Deep.CutBlock
namespace Go.Proofs.YtbmcngoeinginaaGreatDoor
open Go Go.RowKit Go.Lib
attribute [local irreducible] Go.wpQuiet
theorem ownD_zero (h : Nat) (W : World) : OwnD h W (.slice none 0 0) (.slice none 0 0) (.slice none 0 0) (.slice none 0 0) zeroG :=
 ⟨⟨[], World.ownsRow_nil _ _ _ _, fun j hj => absurd hj (by simp [zeroG])⟩, World.ownsRow_nil _ _ _ _, ⟨[], rfl, World.ownsRow_nil _ _ _ _, fun i hi => absurd hi (by simp [zeroG]), fun i j p q _ h => by simp at h⟩, World.ownsRow_nil _ _ _ _⟩
theorem game_cells_inj {g : GameD} {x y : GPl} (h : g.cells x = g.cells y) : x = y :=
 cells_inj h
theorem below_alt {h : Nat} {W W' : World} (hb : Below h W W') : Alters (fun b => h ≤ b) W W' := ⟨hb.os, hb.tape, hb.output, hb.size, fun k _ hs => hb.block k (by omega)⟩
theorem info_game9 : (Tryz.prog.info? 38).map (·.size) = some 9 := info_gameC
theorem step_store_nine {ops : Array Oper} {o : Oper} {a : Act} {w : World} {K : Act → World → Prop} {Q : Exit → Act → World → Prop} {E : Prop} (hw : Region.wanted o (yielded ops a.tmps) = true) (x y : Operand) (ho : o.op = .store 38 x y)
   (b : Nat) (cs : Array Value) (hx : a.eval x = .pointer (some ⟨b, 0, none⟩)) (hy : a.eval y = .agg cs) (old : Array Value) (hg : w.heap[b]? = some (.cells old 38 (0, 0))) (h4 : cs.size = 9) (hold : old.size = 9) (h1 : cs.all (·.oneCell') = true)
   (h : K (a.put o.dst undef) (w.setRow b cs)) : if Region.wanted o (yielded ops a.tmps) = true then Oper.wp Tryz.prog o a w K Q else E := by
 rw [if_pos hw]
 exact wp_store_row 38 x y ho b cs hx hy 38 old hg (by rw [h4]; exact info_game9) (by rw [h4]; exact hold) h1 h
set_option maxRecDepth 100000 in
set_option maxHeartbeats 2000000 in
theorem rparse3_any (s : List UInt8) (hs : s.length ≤ 100000) (hn : (cutS s 10).length ≤ 1900) (hl : ∀ x ∈ cutS s 10, (cutS x 32).length ≤ 1900) (w : World) :
   Calls Tryz.prog 14 #[.string ⟨s.toArray⟩] w (GParsed s w) := by
 have HOK := Lib.hid (ok_same s)
 have hbA : Below w.heap.size w (w.alloc (.cells zeroC 38)) := below_alloc (Below.refl _ w) _
 have hZ0 : (w.alloc (.cells zeroC 38)).heap[w.heap.size]? = some (.cells zeroC 38 (0, 0)) := World.alloc_heap_new _ _
 have HCUT := Lib.hid (fun W => rcut_any s 10 W (by omega) hn)
 have hc1 := cut_one s 10
 have hce := cut_each s 10
 have HUZ := Lib.hid (upR_zero s)
 have HUS := Lib.hid (upR_succ s)
 have HUA := Lib.hid (upR_all s)
 have HSM := Lib.hid (upR_small s)
 have HL : Hid (∀ x ∈ cutS s 10, x.length ≤ 100000 ∧ (cutS x 32).length ≤ 1900) := Lib.hid (fun x hx => ⟨Nat.le_trans (hce x hx) hs, hl x hx⟩)
 generalize upR s = gf at *
 generalize cutS s 10 = ls at *
 clear hce hl
 go_enter Tryz.func14, Tryz.ntmps14
 go_wp2_with fail
 refine (HCUT.out (w.alloc (.cells zeroC 38))).mono ?_
 generalize w.alloc (.cells zeroC 38) = w1 at *
 rintro e w2 ⟨v, rfl, hv, hb2⟩
 obtain ⟨gw, cw, rfl, hgw1, hgw2, hcw, hcell⟩ := hv.cells hc1
 have hZ2 := (hb2.block _ (bx_lt hZ0)).trans hZ0
 have hl0 := bx_lt hZ0
 have hbw2 := below_step hbA hb2
 have hbA2 : Below w2.heap.size w2 (w2.alloc (.cells zeroC 38)) := below_alloc (Below.refl _ _) _
 have hX3 : (w2.alloc (.cells zeroC 38)).heap[w2.heap.size]? = some (.cells zeroC 38 (0, 0)) := World.alloc_heap_new _ _
 go_upto_region 2 with (fail)
 have hzw : w2.alloc (.cells #[.int .i64 0, .slice none 0 0, .slice none 0 0, .slice none 0 0, .int .i64 0, .bool false, .slice none 0 0, .int .i64 0, .int .i64 0] 38) = w2.alloc (.cells zeroC 38) := rfl
 rw [hzw]
 clear hzw
 obtain ⟨r, hre⟩ : ∃ r, w2.heap.size = r := ⟨_, rfl⟩
 have HRE := Lib.hid hre
 rw [hre] at hX3
 (try simp only [hre])
 have HZ3 := Lib.hid ((hbA2.block _ (bx_lt hZ2)).trans hZ2)
 have HBW3 := Lib.hid (below_step hbw2 hbA2)
 have HWS : Hid (∀ W, Below w2.heap.size w2 W → ∀ (j : Nat) (hj : j < ls.length), W.cell? ⟨gw, j, none⟩ = some (.string ⟨(ls[j]'hj).toArray⟩)) := Lib.hid (fun W hW j hj => by
   have h1 := cell_keep hW (hcell j hj)
   rwa [Nat.zero_add] at h1)
 have HB23 := Lib.hid hbA2
 have HX3 := Lib.hid hX3
 obtain ⟨Q0, hQ0⟩ : ∃ Q0, w.heap.size = Q0 := ⟨_, rfl⟩
 have HQE := Lib.hid hQ0
 (try simp only [hQ0])
 have HRQ : Hid (Q0 < r) := Lib.hid (by rw [← hQ0, ← hre]; exact Nat.lt_of_lt_of_le hl0 hb2.size)
 have HR3 : Hid (r < (w2.alloc (.cells zeroC 38)).heap.size) := Lib.hid (by rw [← hre]; exact bx_lt (by rw [hre]; exact hX3))
 have HLN := Lib.hid hcw
 have HGW : Hid (gw < w2.heap.size) := Lib.hid hgw2
 clear hv hgw1 hgw2 hcell hZ2 hbw2 hbA2 hX3 hb2 hbA hZ0 hl0 hre hQ0
 generalize hw3 : w2.alloc (.cells zeroC 38) = w3 at *
 clear hw3
 obtain ⟨h, hhe⟩ : ∃ h, w3.heap.size = h := ⟨_, rfl⟩
 have HHE := Lib.hid hhe
 clear hhe
 have hb0 : (0 : Int) ≤ (ls.length : Int) := by omega
 go_wp2_with fail
 go_loopw [6] (fun i wr => ∃ (k : Nat) (vn vt vk vc : Value), k ≤ ls.length ∧ i = .int .i64 (k : Int) ∧ Hid (wr.heap[r]? = some (.cells #[.int .i64 (gf k).b.cells, vn, vt, vk, .int .i64 (gf k).rights, .bool (gf k).must, vc, .int .i64 (gf k).blocked, .int .i64 (gf k).endless] 38 (0, 0))) ∧ Hid (OwnD h wr vn vt vk vc (gf k)) ∧ Hid (Alters (fun b => b = r ∨ h ≤ b) w3 wr)) (fun i _ => ls.length - (intOf i).toNat)
 case atStart =>
   refine ⟨0, _, _, _, _, Nat.zero_le _, rfl, Lib.hid ?_, Lib.hid (by rw [HUZ.out]; exact ownD_zero _ _), Lib.hid (Alters.refl _ _)⟩
   rw [HUZ.out]; exact HX3.out
 case round =>
   obtain ⟨k, vn, vt, vk, vc, hk, rfl, HX, HO, HB⟩ := hrel
   by_cases hlt : k < ls.length
   · have t3 : decide ((k : Int) < (ls.length : Int)) = true := by rw [decide_eq_true_eq]; omega
     have b3 : (0 : Int) ≤ (k : Int) := by omega
     have b4 : (k : Int) < (ls.length : Int) := by omega
     go_upto_region 5 with (fail);obtain ⟨x, hx⟩ : ∃ x, ls[k]'hlt = x := ⟨_, rfl⟩
     have HUK : Hid (gf (k + 1) = growS (gf k) x) := Lib.hid (by rw [← hx]; exact HUS.out k hlt)
     have HLX := HL.out _ (List.getElem_mem hlt);rw [hx] at HLX
     have hsz : h ≤ wr.heap.size := by rw [← HHE.out]; exact HB.out.size
     have hgw3 : gw < w3.heap.size := Nat.lt_of_lt_of_le HGW.out HB23.out.size
     have hgr : ¬ (gw = r ∨ h ≤ gw) := by have := HGW.out; have := HRE.out; have := HHE.out; omega
     have hq : wr.cell? ⟨gw, k, none⟩ = some (.string ⟨x.toArray⟩) := (World.cell?_of_block (a := ⟨gw, k, none⟩) (HB.out.block gw hgw3 hgr)).trans (by rw [← hx]; exact HWS.out w3 HB23.out k hlt)
     have HWX : Hid (∀ W, Below wr.heap.size wr W → W.cell? ⟨gw, k, none⟩ = some (.string ⟨x.toArray⟩)) := Lib.hid (fun W hW => cell_keep hW hq);have HGR := Lib.hid (fun W (hW : Below wr.heap.size wr W) => grow_any h (gf k) vn vt vk vc x W (Nat.le_trans hsz hW.size) HLX.1 HLX.2 ((HSM.out k hk).few.mono (by omega)) (HO.out.up hW));have HSZ := Lib.hid hsz;have HK1 : Hid (k + 1 ≤ ls.length) := Lib.hid hlt;unfold gcs at HGR;rw [← HUK.out] at HGR;clear hx HLX hsz hq;refine wp_region_held_drew (S := fun W => W.cell? ⟨gw, k, none⟩ = some (.string ⟨x.toArray⟩)) (by kernel_rfl) (HWX.out _ (Below.refl _ wr).drew) (fun hHeld => ?_);have HBN := Lib.hid (Below.refl wr.heap.size wr).drew;generalize wr.drew = u0 at *;refine TK 1 ?_;(try simp only [pS]);refine TK 2 ?_;(try simp only [pS]);refine TK 3 ?_;(try simp only [pS]);refine TK 4 ?_;(try simp only [pS])
     refine wpAnyH_ready (rs := [0]) (by kernel_rfl) (by simp) ?_;refine AC (fun K hK => ?_) AllReadyH.nil;have hxu := (HBN.out.block _ (bx_lt HX.out)).trans HX.out;have q0 := bx_cell hxu 0 rfl;have q1 := bx_cell hxu 1 rfl;have q2 := bx_cell hxu 2 rfl;have q3 := bx_cell hxu 3 rfl;have q4 := bx_cell hxu 4 rfl;have q5 := bx_cell hxu 5 rfl;have q6 := bx_cell hxu 6 rfl;have q7 := bx_cell hxu 7 rfl;have q8 := bx_cell hxu 8 rfl;go_simp;refine hK.out _ _ (HWX.out _ HBN.out) (fun hHeld => ?_);clear hK K hxu q0 q1 q2 q3 q4 q5 q6 q7 q8;(try simp only [pS]);refine wpAnyH_ready (rs := [5]) (by kernel_rfl) (by simp) ?_;refine AC (fun K hK => ?_) AllReadyH.nil
     refine step_call_g rfl 39 _ _ #[.agg #[.int .i64 (gf k).b.cells, vn, vt, vk, .int .i64 (gf k).rights, .bool (gf k).must, vc, .int .i64 (gf k).blocked, .int .i64 (gf k).endless], .string ⟨x.toArray⟩] rfl rfl (enters_of Tryz.func39 (by kernel_rfl) rfl) ((HGR.out u0 HBN.out).mono ?_);rintro e u1 ⟨an, at2, ak, ac, rfl, hO1, hb1⟩
     have hlr : r < h := by rw [← HHE.out]; exact HR3.out
     have hlg : gw < h := by rw [← HHE.out]; exact hgw3
     have hq1 : u1.cell? ⟨gw, k, none⟩ = some (.string ⟨x.toArray⟩) := (World.cell?_of_block (a := ⟨gw, k, none⟩) (hb1.block gw hlg)).trans (HWX.out _ HBN.out);have hx1 := (hb1.block r hlr).trans ((HBN.out.block _ (bx_lt HX.out)).trans HX.out);refine ⟨_, rfl, hK.out _ _ hq1 (fun hHeld => ?_)⟩;clear hK K;(try simp only [pS]);have hal := setRow_altK u1 r (gcs (gf (k + 1)) an at2 ak ac);have hq2 := (World.cell?_of_block (a := ⟨gw, k, none⟩) (hal.block gw (World.block_lt_of_cell? _ _ hq1) (fun e => hgr (.inl e)))).trans hq1
     have hone : (gcs (gf (k + 1)) an at2 ak ac).all (·.oneCell') = true := by
       obtain ⟨y, hy, _⟩ := hO1.game
       rw [hy]; simp [GameD.cells, Value.oneCell']
     have HN1 : Hid ((u1.setRow r (gcs (gf (k + 1)) an at2 ak ac)).heap[r]? = some (.cells (gcs (gf (k + 1)) an at2 ak ac) 38 (0, 0))) := Lib.hid (setRow_heap u1 r _ _ _ _ hx1);have HN2 : Hid (OwnD h (u1.setRow r (gcs (gf (k + 1)) an at2 ak ac)) an at2 ak ac (gf (k + 1))) := Lib.hid (hO1.alt hal (notTs_box hx1));have HN3 : Hid (Alters (fun b => b = r ∨ h ≤ b) w3 (u1.setRow r (gcs (gf (k + 1)) an at2 ak ac))) := Lib.hid (((HB.out.trans (Alters.of_below HBN.out)).trans ((below_alt hb1).mono (fun _ _ e => .inr e))).trans (hal.mono (fun _ _ e => .inl e)));refine wpAnyH_ready (rs := [6]) (by kernel_rfl) (by simp) ?_;refine AC (fun K hK => ?_) AllReadyH.nil;refine step_store_nine rfl (.tmp 4) (.tmp 21) rfl r (gcs (gf (k + 1)) an at2 ak ac) rfl rfl _ hx1 rfl rfl hone ?_;refine hK.out _ _ hq2 (fun _ => ?_);clear hK K hq2 hone hal hq1 hx1 hO1 hb1 HGR HWX HX HO HB;(try simp only [Act.put])
     generalize u1.setRow r (gcs (gf (k + 1)) an at2 ak ac) = u2 at *;refine wpAnyH_done (by kernel_rfl) ?_ _
     go_wp2_with fail
     go_roundw
     case rel => exact ⟨k + 1, an, at2, ak, ac, HK1.out, by go_num, HN1, HN2, HN3⟩
     case measure => simp [intOf]; omega
   · obtain rfl : k = ls.length := by omega
     obtain ⟨g, hg⟩ : ∃ g, gf ls.length = g := ⟨_, rfl⟩
     have HGE : Hid (g = readR s) := Lib.hid (by rw [← hg]; exact HUA.out)
     have HSG : Hid (Sml ls.length g) := Lib.hid (by rw [← hg]; exact HSM.out _ (Nat.le_refl _))
     have hX := HX.out;have hO := HO.out;rw [hg] at hX hO;obtain ⟨x, hxe, hgi⟩ := hO.game
     have HX4 : Hid (wr.heap[r]? = some (.cells (g.cells x) 38 (0, 0))) := Lib.hid (by rw [← hxe]; exact hX)
     have HZ4 : Hid (wr.heap[Q0]? = some (.cells zeroC 38 (0, 0))) := Lib.hid ((HB.out.block Q0 (Nat.lt_trans HRQ.out HR3.out) (by have := HRQ.out; have := HR3.out; have := HHE.out; omega)).trans (by rw [← HQE.out]; exact HZ3.out))
     have HBW4 : Hid (Below Q0 w wr) := Lib.hid ((by rw [← HQE.out]; exact HBW3.out : Below Q0 w w3).trans (HB.out.below (Nat.le_of_lt (Nat.lt_trans HRQ.out HR3.out)) (fun b hb => by have := HRQ.out; have := HR3.out; have := HHE.out; omega)))
     have HGI4 := Lib.hid hgi
     have HOG : Hid (∀ W : World, Below wr.heap.size wr W → W.heap[Q0]? = some (.cells zeroC 38 (0, 0)) → ∀ c, GameIn (W.setRow Q0 c).heap.size (W.setRow Q0 c) x g) := Lib.hid (fun W hW hz c => by
       obtain ⟨y, hy, hgy⟩ := ((hO.up hW).alt (setRow_altK W Q0 c) (notTs_box hz)).game;rw [hxe] at hy;rw [game_cells_inj hy];exact hgy)
     have HMD : Hid (Mod g) := Lib.hid ⟨Nat.le_trans HSG.out.few.next (by omega), Nat.le_trans HSG.out.few.kinds (by omega), fun k hk => Nat.le_trans (HSG.out.few.progs k hk) (by omega), HSG.out.steps, Nat.le_trans HSG.out.few.clauses (by omega)⟩
     have HPG : Hid (parsedG s = if (validG g && decide (writtenG g = s)) = true then g else zeroG) := Lib.hid (by
       unfold parsedG;rw [HGE.out, HOK.out.1]
       by_cases ho : okG s = true
       · rw [if_pos ho, if_pos ho, HOK.out.2 (by rw [HOK.out.1]; exact ho)]
       · rw [if_neg ho, if_neg ho])
     have HPE : Hid (parsedE s = if (validG g && decide (writtenG g = s)) = true then 0 else 3) := Lib.hid (by
       unfold parsedE;rw [HGE.out, HOK.out.1])
     have HV := Lib.hid (rvalid3_any g x wr.heap.size wr HMD.out (Nat.le_refl _) hgi);clear hg hX hO hxe hgi HX HO HB HUS HSM HUA HUZ HL HWS HGE HSG HOK;unfold GameD.cells at HV HX4;have hx4 := HX4.out;have q0 := bx_cell hx4 0 rfl;have q1 := bx_cell hx4 1 rfl;have q2 := bx_cell hx4 2 rfl;have q3 := bx_cell hx4 3 rfl;have q4 := bx_cell hx4 4 rfl;have q5 := bx_cell hx4 5 rfl;have q6 := bx_cell hx4 6 rfl;have q7 := bx_cell hx4 7 rfl;have q8 := bx_cell hx4 8 rfl;have hlB := bx_lt hx4;clear hx4
     go_wp2_with fail
     refine HV.out.mono ?_;rintro e w5 ⟨rfl, hb5⟩;have HX5 := Lib.hid ((hb5.block _ (bx_lt HX4.out)).trans HX4.out);have HZ5 := Lib.hid ((hb5.block _ (bx_lt HZ4.out)).trans HZ4.out);have HG5 := Lib.hid (HGI4.out.up (Nat.le_refl _) hb5);have HS5 := Lib.hid hb5.size;have HBR5 := Lib.hid hb5
     have HBW5 := Lib.hid (HBW4.out.trans (hb5.mono (by have := bx_lt HZ4.out; omega)))
     clear q0 q1 q2 q3 q4 q5 q6 q7 q8 hlB hb5 HX4 HZ4 HBW4 HV
     cases hv : validG g with
     | false =>
       have HP : Hid (parsedG s = zeroG ∧ parsedE s = 3) := Lib.hid ⟨by rw [HPG.out, hv]; rfl, by rw [HPE.out, hv]; rfl⟩
       clear hv HPG HPE;have HIS : Hid ((Tryz.prog.info? 38).map (·.size) = some (zeroC.size)) := Lib.hid info_gameC;have HQX : Hid ((w5.setRow Q0 zeroC).heap[Q0]? = some (.cells zeroC 38 (0, 0))) := Lib.hid (setRow_heap w5 Q0 _ _ _ _ HZ5.out);have hlq := bx_lt HZ5.out
       have hzo : zeroC.all (·.oneCell') = true := by simp [zeroC, Value.oneCell']
       go_wp2_with (refine wpList_store_row rfl 38 (.tmp 2) (.tmp 31) rfl Q0 zeroC rfl rfl 38 zeroC HZ5.out HIS.out rfl hzo ?_);have hal := setRow_altK w5 Q0 zeroC
       have hbz : Below Q0 w (w5.setRow Q0 zeroC) := HBW5.out.trans (hal.below (by rw [← HQE.out]; exact HBW5.out.size) (fun b hb => Nat.le_of_eq (by exact hb.symm)))
       generalize w5.setRow Q0 zeroC = w9 at *;clear hal;unfold zeroC at HQX;have q0 := bx_cell HQX.out 0 rfl;have q1 := bx_cell HQX.out 1 rfl;have q2 := bx_cell HQX.out 2 rfl;have q3 := bx_cell HQX.out 3 rfl;have q4 := bx_cell HQX.out 4 rfl;have q5 := bx_cell HQX.out 5 rfl;have q6 := bx_cell HQX.out 6 rfl;have q7 := bx_cell HQX.out 7 rfl;have q8 := bx_cell HQX.out 8 rfl
       refine bodyPost_ret_by (v := .tuple #[.agg #[.int .i64 0, .slice none 0 0, .slice none 0 0, .slice none 0 0, .int .i64 0, .bool false, .slice none 0 0, .int .i64 0, .int .i64 0], .int .i64 3]) (by rw [results_cell_tmp rfl]; go_simp) rfl ?_
       unfold GParsed;rw [HP.out.1, HP.out.2]
       exact ⟨⟨none, 0, none, 0, none, 0, none, 0⟩, rfl, zero_in _ _, by rw [HQE.out]; exact hbz⟩
     | true =>
       have HPR : Hid (printG g = writtenG g) := Lib.hid (by unfold printG; rw [if_pos hv])
       have HVT := Lib.hid hv;have HPT := Lib.hid (rprint3_any g x wr.heap.size w5 HMD.out HS5.out HG5.out);rw [HPR.out] at HPT;clear hv;unfold GameD.cells at HPT;have hx5 := HX5.out;have q0 := bx_cell hx5 0 rfl;have q1 := bx_cell hx5 1 rfl;have q2 := bx_cell hx5 2 rfl;have q3 := bx_cell hx5 3 rfl;have q4 := bx_cell hx5 4 rfl;have q5 := bx_cell hx5 5 rfl;have q6 := bx_cell hx5 6 rfl;have q7 := bx_cell hx5 7 rfl;have q8 := bx_cell hx5 8 rfl;have hlB := bx_lt hx5;clear hx5
       go_wp2_with fail
       refine HPT.out.mono ?_;rintro e w6 ⟨rfl, hb6⟩;have HX6 := Lib.hid ((hb6.block _ (bx_lt HX5.out)).trans HX5.out);have HZ6 := Lib.hid ((hb6.block _ (bx_lt HZ5.out)).trans HZ5.out);have HG6 := Lib.hid (HG5.out.up HS5.out hb6);have HBR6 := Lib.hid (below_step HBR5.out hb6)
       have HBW6 := Lib.hid (HBW5.out.trans (hb6.mono (by have := bx_lt HZ5.out; omega)))
       clear q0 q1 q2 q3 q4 q5 q6 q7 q8 hlB hb6 HX5 HZ5 HBW5 HPT
       by_cases ht : writtenG g = s
       · have t3 : decide (writtenG g = s) = true := by simpa using ht
         have HP : Hid (parsedG s = g ∧ parsedE s = 0) := Lib.hid ⟨by rw [HPG.out, HVT.out, t3]; rfl, by rw [HPE.out, HVT.out, t3]; rfl⟩
         rw [ht];clear ht t3 HPG HPE;have hx6 := HX6.out;have q0 := bx_cell hx6 0 rfl;have q1 := bx_cell hx6 1 rfl;have q2 := bx_cell hx6 2 rfl;have q3 := bx_cell hx6 3 rfl;have q4 := bx_cell hx6 4 rfl;have q5 := bx_cell hx6 5 rfl;have q6 := bx_cell hx6 6 rfl;have q7 := bx_cell hx6 7 rfl;have q8 := bx_cell hx6 8 rfl;have hlB := bx_lt hx6;clear hx6;have hlq := bx_lt HZ6.out
         go_wp2_with (refine wpList_store_row rfl 38 (.tmp 2) (.tmp 32) rfl Q0 (g.cells x) rfl rfl 38 zeroC HZ6.out (by rw [cells_size]; exact info_gameC) (by rw [cells_size]; rfl) (cells_one g x) ?_)
         have hal := setRow_altK w6 Q0 (g.cells x)
         have hbz : Below Q0 w (w6.setRow Q0 (g.cells x)) := HBW6.out.trans (hal.below (by rw [← HQE.out]; exact HBW6.out.size) (fun b hb => Nat.le_of_eq (by exact hb.symm)))
         have HGF : Hid (GameIn (w6.setRow Q0 (g.cells x)).heap.size (w6.setRow Q0 (g.cells x)) x g) := Lib.hid (HOG.out w6 HBR6.out HZ6.out _);have HQX : Hid ((w6.setRow Q0 (g.cells x)).heap[Q0]? = some (.cells (g.cells x) 38 (0, 0))) := Lib.hid (setRow_heap w6 Q0 _ _ _ _ HZ6.out);clear q0 q1 q2 q3 q4 q5 q6 q7 q8 hlB hlq;generalize w6.setRow Q0 (g.cells x) = w9 at *;clear hal;unfold GameD.cells at HQX;have q0 := bx_cell HQX.out 0 rfl;have q1 := bx_cell HQX.out 1 rfl;have q2 := bx_cell HQX.out 2 rfl;have q3 := bx_cell HQX.out 3 rfl;have q4 := bx_cell HQX.out 4 rfl;have q5 := bx_cell HQX.out 5 rfl;have q6 := bx_cell HQX.out 6 rfl;have q7 := bx_cell HQX.out 7 rfl;have q8 := bx_cell HQX.out 8 rfl
         refine bodyPost_ret_by (v := .tuple #[.agg (g.cells x), .int .i64 0]) (by unfold GameD.cells; rw [results_cell_tmp rfl]; go_simp) rfl ?_
         unfold GParsed;rw [HP.out.1, HP.out.2]
         exact ⟨x, rfl, HGF.out, by rw [HQE.out]; exact hbz⟩
       · have t3 : decide (writtenG g = s) = false := by simpa using ht
         have HP : Hid (parsedG s = zeroG ∧ parsedE s = 3) := Lib.hid ⟨by rw [HPG.out, HVT.out, t3]; rfl, by rw [HPE.out, HVT.out, t3]; rfl⟩
         generalize writtenG g = tx at *
         have t4 : (tx == s) = false := by simpa using ht
         clear ht t3 HPG HPE;have HIS : Hid ((Tryz.prog.info? 38).map (·.size) = some (zeroC.size)) := Lib.hid info_gameC;have HQX : Hid ((w6.setRow Q0 zeroC).heap[Q0]? = some (.cells zeroC 38 (0, 0))) := Lib.hid (setRow_heap w6 Q0 _ _ _ _ HZ6.out);have hlq := bx_lt HZ6.out
         have hzo : zeroC.all (·.oneCell') = true := by simp [zeroC, Value.oneCell']
         go_wp2_with (refine wpList_store_row rfl 38 (.tmp 2) (.tmp 31) rfl Q0 zeroC rfl rfl 38 zeroC HZ6.out HIS.out rfl hzo ?_);have hal := setRow_altK w6 Q0 zeroC
         have hbz : Below Q0 w (w6.setRow Q0 zeroC) := HBW6.out.trans (hal.below (by rw [← HQE.out]; exact HBW6.out.size) (fun b hb => Nat.le_of_eq (by exact hb.symm)))
         generalize w6.setRow Q0 zeroC = w9 at *;clear hal;unfold zeroC at HQX;have q0 := bx_cell HQX.out 0 rfl;have q1 := bx_cell HQX.out 1 rfl;have q2 := bx_cell HQX.out 2 rfl;have q3 := bx_cell HQX.out 3 rfl;have q4 := bx_cell HQX.out 4 rfl;have q5 := bx_cell HQX.out 5 rfl;have q6 := bx_cell HQX.out 6 rfl;have q7 := bx_cell HQX.out 7 rfl;have q8 := bx_cell HQX.out 8 rfl
         refine bodyPost_ret_by (v := .tuple #[.agg #[.int .i64 0, .slice none 0 0, .slice none 0 0, .slice none 0 0, .int .i64 0, .bool false, .slice none 0 0, .int .i64 0, .int .i64 0], .int .i64 3]) (by rw [results_cell_tmp rfl]; go_simp) rfl ?_
         unfold GParsed;rw [HP.out.1, HP.out.2]
         exact ⟨⟨none, 0, none, 0, none, 0, none, 0⟩, rfl, zero_in _ _, by rw [HQE.out]; exact hbz⟩
end Go.Proofs.YtbmcngoeinginaaGreatDoor
