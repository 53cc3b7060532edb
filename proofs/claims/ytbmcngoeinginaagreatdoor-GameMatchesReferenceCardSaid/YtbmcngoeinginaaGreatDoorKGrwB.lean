/-
 Of the reference: grow.
-/
import Derived.Test.YtbmcngoeinginaaGreatDoorTk
import Derived.Test.YtbmcngoeinginaaGreatDoorKGrP
import Derived.Deep.DeepCutAuto
import Derived.Deep.CutBlock
namespace Go.Proofs.YtbmcngoeinginaaGreatDoor
open Go Go.RowKit Go.Lib
attribute [local irreducible] Go.wpQuiet
set_option maxRecDepth 100000 in
set_option maxHeartbeats 4000000 in
theorem grow_4 (h : Nat) (g : GameD) (vn vt vk vc : Value) (s : List UInt8) (w : World) (hh : h ≤ w.heap.size) (hs : s.length ≤ 100000) (hn : (cutS s 32).length ≤ 1900) (hf : Few 1900 g) (hkey : keyNo (headW (cutS s 32)) = some 4) (hO : OwnD h w vn vt vk vc g) :
   Calls Tryz.prog 39 #[.agg (gcs g vn vt vk vc), .string ⟨s.toArray⟩] w fun e w' => ∃ vn' vt' vk' vc', e = .returned (.agg (gcs (growS g s) vn' vt' vk' vc')) ∧ OwnD h w' vn' vt' vk' vc' (growS g s) ∧ Below h w w' := by
 have hbA : Below w.heap.size w ((w.alloc (.cells #[.int .i64 g.b.cells, vn, vt, vk, .int .i64 g.rights, .bool g.must, vc, .int .i64 g.blocked, .int .i64 g.endless] 38)).alloc (.cells zeroC 38)) := below_alloc (below_alloc (Below.refl _ w) _) _
 have hx1 : ((w.alloc (.cells #[.int .i64 g.b.cells, vn, vt, vk, .int .i64 g.rights, .bool g.must, vc, .int .i64 g.blocked, .int .i64 g.endless] 38)).alloc (.cells zeroC 38)).heap[w.heap.size]? = some (.cells #[.int .i64 g.b.cells, vn, vt, vk, .int .i64 g.rights, .bool g.must, vc, .int .i64 g.blocked, .int .i64 g.endless] 38 (0, 0)) := hpo (hpn _ rfl)
 have hx2 : ((w.alloc (.cells #[.int .i64 g.b.cells, vn, vt, vk, .int .i64 g.rights, .bool g.must, vc, .int .i64 g.blocked, .int .i64 g.endless] 38)).alloc (.cells zeroC 38)).heap[w.heap.size + 1]? = some (.cells zeroC 38 (0, 0)) := hpn _ (by simp)
 have hc1 := cut_one s 32
 have hce := cut_each s 32
 have HGS : Hid (growS g s = match keyNo (headW (cutS s 32)) with | some i => growN g i s (cutS s 32) | none => g) := Lib.hid rfl
 have HCUT : Hid (Calls Tryz.prog 28 #[.string ⟨s.toArray⟩, .int .u8 32] ((w.alloc (.cells #[.int .i64 g.b.cells, vn, vt, vk, .int .i64 g.rights, .bool g.must, vc, .int .i64 g.blocked, .int .i64 g.endless] 38)).alloc (.cells zeroC 38)) fun e w' => ∃ v, e = .returned v ∧ OwnStrs ((w.alloc (.cells #[.int .i64 g.b.cells, vn, vt, vk, .int .i64 g.rights, .bool g.must, vc, .int .i64 g.blocked, .int .i64 g.endless] 38)).alloc (.cells zeroC 38)).heap.size w' v (cutS s 32) ∧ Below ((w.alloc (.cells #[.int .i64 g.b.cells, vn, vt, vk, .int .i64 g.rights, .bool g.must, vc, .int .i64 g.blocked, .int .i64 g.endless] 38)).alloc (.cells zeroC 38)).heap.size ((w.alloc (.cells #[.int .i64 g.b.cells, vn, vt, vk, .int .i64 g.rights, .bool g.must, vc, .int .i64 g.blocked, .int .i64 g.endless] 38)).alloc (.cells zeroC 38)) w') := Lib.hid (rcut_any s 32 _ (by omega) hn)
 have hO1 := hO.up hbA
 unfold gcs
 generalize hG' : growS g s = g' at *
 clear hG'
 generalize hWS : cutS s 32 = ws at *
 clear hWS
 have HWL : Hid (∀ x ∈ ws, x.length ≤ 1000000) := Lib.hid (fun x hx => by have := hce x hx; omega)
 have HF := Lib.hid hf
 clear hO hf hce
 have HKEY := Lib.hid hkey
 clear hkey
 go_enter Tryz.func39, Tryz.ntmps39
 go_upto_region 1 with (fail)
 have hzw : (w.alloc (.cells #[.int .i64 g.b.cells, vn, vt, vk, .int .i64 g.rights, .bool g.must, vc, .int .i64 g.blocked, .int .i64 g.endless] 38)).alloc (.cells #[.int .i64 0, .slice none 0 0, .slice none 0 0, .slice none 0 0, .int .i64 0, .bool false, .slice none 0 0, .int .i64 0, .int .i64 0] 38) = (w.alloc (.cells #[.int .i64 g.b.cells, vn, vt, vk, .int .i64 g.rights, .bool g.must, vc, .int .i64 g.blocked, .int .i64 g.endless] 38)).alloc (.cells zeroC 38) := rfl
 (try rw [hzw])
 clear hzw
 obtain ⟨r, hr⟩ : ∃ r, w.heap.size = r := ⟨_, rfl⟩
 rw [hr] at hx1 hx2
 (try simp only [hr])
 have HRE := Lib.hid hr
 clear hr
 generalize (w.alloc (.cells #[.int .i64 g.b.cells, vn, vt, vk, .int .i64 g.rights, .bool g.must, vc, .int .i64 g.blocked, .int .i64 g.endless] 38)).alloc (.cells zeroC 38) = w1 at *
 go_wp2_with fail
 refine HCUT.out.mono ?_
 rintro e w2 ⟨v, rfl, hv, hb2⟩
 have HX2 := Lib.hid ((hb2.block _ (bx_lt hx1)).trans hx1)
 have HZ2 := Lib.hid ((hb2.block _ (bx_lt hx2)).trans hx2)
 have HO2 := Lib.hid (hO1.up hb2)
 have HB2 := Lib.hid (below_step hbA hb2)
 have HW2 := Lib.hid (hv.words hc1)
 obtain ⟨gw, cw, rfl, _, _, hcw, hcell⟩ := hv.cells hc1
 clear hx1 hx2 hb2 hbA hO1 HCUT hv
 obtain ⟨m, hm⟩ : ∃ m, ws.length = m + 1 := ⟨ws.length - 1, by omega⟩
 have z0 := hcell 0 (by omega)
 have zm := hcell m (by omega)
 rw [Nat.zero_add] at z0 zm
 have HHD : Hid (headW ws = ws[0]'(by omega)) := Lib.hid (by
   cases ws with
   | nil => simp at hm
   | cons a b => rfl)
 have HLA : Hid (lastW ws = ws[m]'(by omega)) := Lib.hid (last_at ws m hm)
 obtain ⟨x, hx⟩ : ∃ x, ws[0]'(by omega) = x := ⟨_, rfl⟩
 obtain ⟨la, hla⟩ : ∃ x, ws[m]'(by omega) = x := ⟨_, rfl⟩
 rw [hx] at z0 HHD
 rw [hla] at zm HLA
 have HML := Lib.hid hm
 rw [hm] at hn hcw ⊢
 have HLL : Hid (la.length ≤ 1000000) := Lib.hid (by rw [← hla]; exact HWL.out _ (List.getElem_mem _))
 clear hx hla hcell hc1 hm
 have b1 : (0 : Int) ≤ (m : Int) := by omega
 have y1 : IntKind.i64.wrap (((m + 1 : Nat) : Int) - 1) = (m : Int) := by
   have e : ((m + 1 : Nat) : Int) - 1 = (m : Int) := by omega
   rw [e]; exact IntWalk.i64_in _ (by omega)
 have y2 : IntKind.i64.wrap ((m : Int) + 1 - 1) = (m : Int) := by
   have e : (m : Int) + 1 - 1 = (m : Int) := by omega
   rw [e]; exact IntWalk.i64_in _ (by omega)
 go_upto_block 0 with (fail)
 clear z0 zm y1 y2
 have c1 : (1 : Int) ≤ (m : Int) + 1 := by omega
 have c2 : (m : Int) + 1 ≤ (cw : Int) := by omega
 go_cut [7, 8, 9, 10] from 22 to 163 (fun _s7 _s8 _s9 _s10 wx => GrowEnd h r w g' wx)
 case first =>
   by_cases hkn : keyNo x = none
   case pos =>
     exact absurd ((show keyNo (headW ws) = none by rw [HHD.out]; exact hkn).symm.trans HKEY.out) (by simp)
   obtain ⟨i, hi, hk, hxe⟩ : ∃ i, ∃ h : i < keysK.length, keyNo x = some i ∧ x = keysK[i] := by
     rcases key_cases x with h | ⟨h, _⟩
     · exact h
     · exact absurd h hkn
   have HGI : Hid (g' = growN g i s ws) := Lib.hid (by rw [HGS.out, HHD.out, hk]);clear hkn;have hi2 : i < 12 := hi
   rcases (show i = 0 ∨ i = 1 ∨ i = 2 ∨ i = 3 ∨ i = 4 ∨ i = 5 ∨ i = 6 ∨ i = 7 ∨ i = 8 ∨ i = 9 ∨ i = 10 ∨ i = 11 by omega) with rfl | rfl | rfl | rfl | rfl | rfl | rfl | rfl | rfl | rfl | rfl | rfl
   · exact absurd ((show keyNo (headW ws) = some 0 by rw [HHD.out]; exact hk).symm.trans HKEY.out) (by decide)
   · exact absurd ((show keyNo (headW ws) = some 1 by rw [HHD.out]; exact hk).symm.trans HKEY.out) (by decide)
   · exact absurd ((show keyNo (headW ws) = some 2 by rw [HHD.out]; exact hk).symm.trans HKEY.out) (by decide)
   · exact absurd ((show keyNo (headW ws) = some 3 by rw [HHD.out]; exact hk).symm.trans HKEY.out) (by decide)
   · obtain rfl : x = [112, 114, 111, 103] := hxe
     clear hk hi hi2 HKEY
     have HPA := Lib.hid (rparse_any (s.drop 5) (by rw [List.length_drop]; omega) w2)
     have HEX := Lib.hid (drop_min s);obtain ⟨P, hP⟩ : ∃ P, parseS (s.drop 5) = P := ⟨_, rfl⟩;rw [hP] at HPA
     replace HGI : Hid (g' = if P.2 = 0 then { g with kinds := addP g.kinds P.1 } else g) := Lib.hid (by rw [HGI.out, ← hP]; rfl)
     clear hP;obtain ⟨pl, pc⟩ := P;dsimp only at HPA HGI
     go_wp2_with fail
     rw [HEX.out];refine HPA.out.mono ?_;rintro e w3 ⟨pw, rfl, hpw, hb3⟩
     obtain ⟨ta, tl, tc, hte⟩ : ∃ ta tl tc, pw = .slice ta tl tc := by
       rcases hpw.form with ⟨h1, _⟩ | ⟨_, _, h1, _⟩
       · exact ⟨_, _, _, h1⟩
       · exact ⟨_, _, _, h1⟩
     subst hte;have HX3 := Lib.hid ((hb3.block _ (bx_lt HX2.out)).trans HX2.out);have HZ3 := Lib.hid ((hb3.block _ (bx_lt HZ2.out)).trans HZ2.out);have HO3 := Lib.hid (HO2.out.up hb3);have HB3 := Lib.hid ((below_step HB2.out hb3).mono hh);have HH3 : Hid (h ≤ w3.heap.size) := Lib.hid (Nat.le_trans hh HB3.out.size);have HPW := Lib.hid hpw;have HB23 := Lib.hid hb3;clear hpw hb3 HPA HEX
     rcases List.eq_nil_or_concat g.kinds with hke | ⟨init, kd, hke⟩
     case inl =>
       have HK := HO2.out.kinds;rw [hke] at HK;obtain ⟨ak, ck, rfl, _⟩ := HK.in_
       have HG2 : Hid (g' = g) := Lib.hid (by
         rw [HGI.out]
         split
         · rw [hke, addP_nil, ← hke]
         · rfl)
       have q1 := bx_cell HX3.out 3 rfl
       have y1 : IntKind.i64.wrap (0 - 1) = -1 := by decide
       clear HK hke HGI
       go_wp2_with fail
       go_meet
       exact ⟨vn, vt, _, vc, by rw [HG2.out]; exact HX3.out, HZ3.out, by rw [HG2.out]; exact HO3.out, HB3.out⟩
     have hke : g.kinds = init ++ [kd] := by simpa using hke
     have HKE := Lib.hid hke;have HK := HO2.out.kinds;rw [hke] at HK;obtain ⟨g1, cap1, pinit, pv, ps, hvk, hpl, ho, hps, hst, hinit, hap, hlast⟩ := HK.last
     have hki : init.length < 1901 := by have := HF.out.kinds; rw [hke] at this; simp at this; omega
     have hm9 : kd.progs.length < 1901 := by have := HF.out.progs kd (by rw [hke]; simp); omega
     obtain ⟨k1, hk1⟩ : ∃ k, init.length = k := ⟨_, rfl⟩;obtain ⟨m9, hm9e⟩ : ∃ k, kd.progs.length = k := ⟨_, rfl⟩;rw [hm9e] at hps hm9;rw [hk1] at ho hpl hki hvk;clear HK;subst hvk;have HM9 := Lib.hid hm9
     have hxl : (flatK init pinit).length = k1 * 3 := by have := ho.1; simp at this; omega
     have HPV : Hid (∀ W, Below w3.heap.size w3 W → W.cell? ⟨g1, k1 * 3 + 1, none⟩ = some pv) := Lib.hid (fun W hW => by
       rw [World.ownsRow.cellAt (World.ownsRow.upB ho (below_step HB23.out hW)) (k1 * 3 + 1) (by omega), List.getElem?_append_right (by omega), hxl, Nat.add_sub_cancel_left]
       rfl)
     have HPS := Lib.hid (World.ownsRow.upB hps HB23.out)
     have HEND := Lib.hid (fun (U : World) (g7 cap : Nat) (w7 : World) (hbU : Below w3.heap.size w3 U) (hown : w7.ownsRow h 68 1 (.slice (some ⟨g7, 0, none⟩) (m9 + 1) cap) (m9 + 1) (ps ++ [.slice ta tl tc])) (hg : U.grownBy w7 pv.ownBlock) (hat : pv.ownBlock = some g7 ∨ g7 = U.heap.size) =>
       prog_end (l := pl) (Nat.le_trans hh HB2.out.size) hk1 hm9e.symm HKE.out HX2.out HZ2.out HO2.out (HB2.out.mono hh) hpl ho hps hst hinit hap hlast HPW.out HB23.out hbU hown hg hat)
     unfold gcs at HEND;clear ho hps hst hinit hap hlast hke hxl hpl hm9e hk1;have q1 := bx_cell HX3.out 3 rfl
     have y1 : IntKind.i64.wrap ((k1 : Int) + 1 - 1) = (k1 : Int) := by
       have e : (k1 : Int) + 1 - 1 = (k1 : Int) := by omega
       rw [e]; exact IntWalk.i64_in _ (by omega)
     have y2 : IntKind.i64.wrap (((k1 + 1 : Nat) : Int) - 1) = (k1 : Int) := by
       have e : ((k1 + 1 : Nat) : Int) - 1 = (k1 : Int) := by omega
       rw [e]; exact IntWalk.i64_in _ (by omega)
     have y3 : (0 : Int) ≤ (k1 : Int) := by omega
     have y4 : (k1 : Int) < (k1 : Int) + 1 := by omega
     by_cases hpc : pc = 0
     case neg =>
       have HG2 : Hid (g' = g) := Lib.hid (by rw [HGI.out, if_neg hpc])
       have t1 : (pc == 0) = false := by simpa using hpc
       have t2 : decide (pc = 0) = false := by simpa using hpc
       clear HGI
       go_wp2_with fail
       go_meet
       exact ⟨vn, vt, _, vc, by rw [HG2.out]; exact HX3.out, HZ3.out, by rw [HG2.out]; exact HO3.out, HB3.out⟩
     subst hpc;replace HGI : Hid (g' = { g with kinds := addP g.kinds pl }) := Lib.hid (by rw [HGI.out, if_pos rfl]);go_upto_region 16 with (fail);clear q1;refine wp_region_held_drew (S := fun W => W.cell? ⟨r, 3, none⟩ = some (.slice (some ⟨g1, 0, none⟩) (k1 + 1) cap1)) (by kernel_rfl) (bx_cell HX3.out 3 rfl) (fun hHeld => ?_);have HBN := Lib.hid (Below.refl w3.heap.size w3).drew;generalize w3.drew = u0 at *;refine TK 0 ?_;(try simp only [pS]);refine TK 1 ?_;(try simp only [pS]);refine TK 2 ?_;(try simp only [pS]);refine TK 3 ?_;(try simp only [pS]);refine TK 4 ?_;(try simp only [pS]);refine TK 5 ?_;(try simp only [pS]);refine TK 6 ?_;(try simp only [pS]);refine TK 7 ?_;(try simp only [pS]);refine TK 9 ?_;(try simp only [pS]);refine wpAnyH_ready (rs := [8, 10]) (by kernel_rfl) (by simp) ?_;refine (AC (fun K hK => ?_) (AC (fun K hK => ?_) AllReadyH.nil));have q8 := HPV.out _ HBN.out
     go_simp;refine hK.out _ _ (bx_cell ((HBN.out.block _ (bx_lt HX3.out)).trans HX3.out) 3 rfl) (fun hHeld => ?_);clear hK K q8;(try simp only [pS]);refine wpAnyH_ready (rs := [10]) (by kernel_rfl) (by simp) ?_;refine (AC (fun K hK => ?_) AllReadyH.nil);go_simp;have hb := below_alloc (Below.refl _ u0) (.cells #[.slice ta tl tc] 68);refine hK.out _ _ (bx_cell (((below_step HBN.out hb).block _ (bx_lt HX3.out)).trans HX3.out) 3 rfl) (fun hHeld => ?_);clear hK K;(try simp only [pS]);have hz : (u0.alloc (.cells #[.slice ta tl tc] 68)).heap[u0.heap.size]? = some (.cells #[.slice ta tl tc] 68 (0, 0)) := hpn _ rfl;obtain ⟨bs, hbe⟩ : ∃ b, u0.heap.size = b := ⟨_, rfl⟩;(try simp only [hbe]);rw [hbe] at hz;have HBL := Lib.hid hz;replace HBN := Lib.hid (below_step HBN.out hb);clear hb hz hbe;generalize u0.alloc (.cells #[.slice ta tl tc] 68) = u1 at *;rotate_left 1;go_simp
     have hb := below_alloc (Below.refl _ u0) (.cells #[.slice ta tl tc] 68);refine hK.out _ _ (bx_cell (((below_step HBN.out hb).block _ (bx_lt HX3.out)).trans HX3.out) 3 rfl) (fun hHeld => ?_);clear hK K;(try simp only [pS]);have hz : (u0.alloc (.cells #[.slice ta tl tc] 68)).heap[u0.heap.size]? = some (.cells #[.slice ta tl tc] 68 (0, 0)) := hpn _ rfl;obtain ⟨bs, hbe⟩ : ∃ b, u0.heap.size = b := ⟨_, rfl⟩;(try simp only [hbe]);rw [hbe] at hz;have HBL := Lib.hid hz;replace HBN := Lib.hid (below_step HBN.out hb);clear hb hz hbe;generalize u0.alloc (.cells #[.slice ta tl tc] 68) = u1 at *;refine wpAnyH_ready (rs := [8]) (by kernel_rfl) (by simp) ?_;refine (AC (fun K hK => ?_) AllReadyH.nil);have q8 := HPV.out _ HBN.out;go_simp;refine hK.out _ _ (bx_cell ((HBN.out.block _ (bx_lt HX3.out)).trans HX3.out) 3 rfl) (fun hHeld => ?_);clear hK K q8;(try simp only [pS]);rotate_left 1
     all_goals
       refine wpAnyH_ready (rs := [11]) (by kernel_rfl) (by simp) ?_;refine (AC (fun K hK => ?_) AllReadyH.nil)
       refine step_pushC rfl 61 68 (.slice none 0 0) 1 24 Tryz.underlying61 info_progC rfl (by decide) (by decide) (.tmp 90) (.tmp 92) rfl h pv m9 ps rfl (World.ownsRow.upB HPS.out HBN.out) (by have := HM9.out; omega) (Nat.le_trans HH3.out HBN.out.size) bs 1 [.slice ta tl tc] rfl rfl HBL.out (by simp [Value.oneCell']) (fun g7 cap w7 hown hg hat => ?_)
       obtain ⟨hx7, q7, f7, hx8, hE⟩ := HEND.out u1 g7 cap w7 HBN.out hown hg hat;refine hK.out _ _ (bx_cell hx7 3 rfl) (fun hHeld => ?_);clear hK K;(try simp only [pS]);refine TK 12 ?_;(try simp only [pS]);refine TK 13 ?_;(try simp only [pS]);refine wpAnyH_ready (rs := [14]) (by kernel_rfl) (by simp) ?_;refine (AC (fun K hK => ?_) AllReadyH.nil);go_simp;refine hK.out _ _ (bx_cell hx8 3 rfl) (fun _ => ?_);clear hK K;(try simp only [Act.put]);refine wpAnyH_done (by kernel_rfl) ?_ _;have HE := Lib.hid hE;clear hx7 q7 f7 hx8 hE hown hg hat hHeld
       go_wp2_with fail
       go_meet
       rw [HGI.out];exact HE.out
   · exact absurd ((show keyNo (headW ws) = some 5 by rw [HHD.out]; exact hk).symm.trans HKEY.out) (by decide)
   · exact absurd ((show keyNo (headW ws) = some 6 by rw [HHD.out]; exact hk).symm.trans HKEY.out) (by decide)
   · exact absurd ((show keyNo (headW ws) = some 7 by rw [HHD.out]; exact hk).symm.trans HKEY.out) (by decide)
   · exact absurd ((show keyNo (headW ws) = some 8 by rw [HHD.out]; exact hk).symm.trans HKEY.out) (by decide)
   · exact absurd ((show keyNo (headW ws) = some 9 by rw [HHD.out]; exact hk).symm.trans HKEY.out) (by decide)
   · exact absurd ((show keyNo (headW ws) = some 10 by rw [HHD.out]; exact hk).symm.trans HKEY.out) (by decide)
   · exact absurd ((show keyNo (headW ws) = some 11 by rw [HHD.out]; exact hk).symm.trans HKEY.out) (by decide)
 case rest =>
   obtain ⟨vn', vt', vk', vc', hx, hz, hO, hb⟩ := hcut
   have hone : (gcs g' vn' vt' vk' vc').all (·.oneCell') = true := by
     obtain ⟨y, hy, _⟩ := hO.game
     rw [hy]; simp [GameD.cells, Value.oneCell']
   have hsz : (gcs g' vn' vt' vk' vc').size = 9 := rfl
   have hal : Alters (fun b => b = r + 1) wc (wc.setRow (r + 1) (gcs g' vn' vt' vk' vc')) := ⟨rfl, rfl, rfl, by rw [size_setRow]; exact Nat.le_refl _, fun k _ hs => setRow_other wc (r + 1) k _ hs⟩
   have HQ : Hid ((wc.setRow (r + 1) (gcs g' vn' vt' vk' vc')).heap[r + 1]? = some (.cells (gcs g' vn' vt' vk' vc') 38 (0, 0))) := Lib.hid (setRow_heap wc (r + 1) _ _ _ _ hz)
   have HFIN : Hid (∃ a1 a2 a3 a4, Ending.returned (.agg (gcs g' vn' vt' vk' vc')) = .returned (.agg (gcs g' a1 a2 a3 a4)) ∧ OwnD h (wc.setRow (r + 1) (gcs g' vn' vt' vk' vc')) a1 a2 a3 a4 g' ∧ Below h w (wc.setRow (r + 1) (gcs g' vn' vt' vk' vc'))) :=
     Lib.hid ⟨_, _, _, _, rfl, hO.alt hal (notTs_box hz), hb.trans (hal.below (Nat.le_trans hh hb.size) (fun k hk => by have hk : k = r + 1 := hk; have := HRE.out; omega))⟩
   have HX := Lib.hid hx;have HZ := Lib.hid hz;have HONE := Lib.hid hone;have HSZ := Lib.hid hsz;clear hx hz hO hb hone hsz hal;generalize gcs g' vn' vt' vk' vc' = CC at *
   have HIS : Hid ((Tryz.prog.info? 38).map (·.size) = some CC.size) := Lib.hid (by rw [HSZ.out]; exact info_gameC)
   have HZS : Hid (zeroC.size = CC.size) := Lib.hid (by rw [HSZ.out]; rfl)
   go_wp2_with (first | (refine wpList_load_row rfl 38 (.tmp 2) rfl r rfl 38 CC (0, 0) _ HX.out Tryz.underlying38 rfl HIS.out ?_) | (refine wpList_store_row rfl 38 (.tmp 4) (.tmp 164) rfl (r + 1) CC rfl rfl 38 zeroC HZ.out HIS.out HZS.out HONE.out ?_));(try simp only [Exit.inBlock, Exit.then]);refine bodyPost_ret_by (v := .agg CC) (results_cell_row rfl _ _ (r + 1) 38 _ (0, 0) _ rfl HQ.out Tryz.underlying38 rfl HIS.out) rfl ?_;exact HFIN.out
set_option maxRecDepth 100000 in
set_option maxHeartbeats 4000000 in
theorem grow_9 (h : Nat) (g : GameD) (vn vt vk vc : Value) (s : List UInt8) (w : World) (hh : h ≤ w.heap.size) (hs : s.length ≤ 100000) (hn : (cutS s 32).length ≤ 1900) (hf : Few 1900 g) (hkey : keyNo (headW (cutS s 32)) = some 9) (hO : OwnD h w vn vt vk vc g) :
   Calls Tryz.prog 39 #[.agg (gcs g vn vt vk vc), .string ⟨s.toArray⟩] w fun e w' => ∃ vn' vt' vk' vc', e = .returned (.agg (gcs (growS g s) vn' vt' vk' vc')) ∧ OwnD h w' vn' vt' vk' vc' (growS g s) ∧ Below h w w' := by
 have hbA : Below w.heap.size w ((w.alloc (.cells #[.int .i64 g.b.cells, vn, vt, vk, .int .i64 g.rights, .bool g.must, vc, .int .i64 g.blocked, .int .i64 g.endless] 38)).alloc (.cells zeroC 38)) := below_alloc (below_alloc (Below.refl _ w) _) _
 have hx1 : ((w.alloc (.cells #[.int .i64 g.b.cells, vn, vt, vk, .int .i64 g.rights, .bool g.must, vc, .int .i64 g.blocked, .int .i64 g.endless] 38)).alloc (.cells zeroC 38)).heap[w.heap.size]? = some (.cells #[.int .i64 g.b.cells, vn, vt, vk, .int .i64 g.rights, .bool g.must, vc, .int .i64 g.blocked, .int .i64 g.endless] 38 (0, 0)) := hpo (hpn _ rfl)
 have hx2 : ((w.alloc (.cells #[.int .i64 g.b.cells, vn, vt, vk, .int .i64 g.rights, .bool g.must, vc, .int .i64 g.blocked, .int .i64 g.endless] 38)).alloc (.cells zeroC 38)).heap[w.heap.size + 1]? = some (.cells zeroC 38 (0, 0)) := hpn _ (by simp)
 have hc1 := cut_one s 32
 have hce := cut_each s 32
 have HGS : Hid (growS g s = match keyNo (headW (cutS s 32)) with | some i => growN g i s (cutS s 32) | none => g) := Lib.hid rfl
 have HCUT : Hid (Calls Tryz.prog 28 #[.string ⟨s.toArray⟩, .int .u8 32] ((w.alloc (.cells #[.int .i64 g.b.cells, vn, vt, vk, .int .i64 g.rights, .bool g.must, vc, .int .i64 g.blocked, .int .i64 g.endless] 38)).alloc (.cells zeroC 38)) fun e w' => ∃ v, e = .returned v ∧ OwnStrs ((w.alloc (.cells #[.int .i64 g.b.cells, vn, vt, vk, .int .i64 g.rights, .bool g.must, vc, .int .i64 g.blocked, .int .i64 g.endless] 38)).alloc (.cells zeroC 38)).heap.size w' v (cutS s 32) ∧ Below ((w.alloc (.cells #[.int .i64 g.b.cells, vn, vt, vk, .int .i64 g.rights, .bool g.must, vc, .int .i64 g.blocked, .int .i64 g.endless] 38)).alloc (.cells zeroC 38)).heap.size ((w.alloc (.cells #[.int .i64 g.b.cells, vn, vt, vk, .int .i64 g.rights, .bool g.must, vc, .int .i64 g.blocked, .int .i64 g.endless] 38)).alloc (.cells zeroC 38)) w') := Lib.hid (rcut_any s 32 _ (by omega) hn)
 have hO1 := hO.up hbA
 unfold gcs
 generalize hG' : growS g s = g' at *
 clear hG'
 generalize hWS : cutS s 32 = ws at *
 clear hWS
 have HWL : Hid (∀ x ∈ ws, x.length ≤ 1000000) := Lib.hid (fun x hx => by have := hce x hx; omega)
 have HF := Lib.hid hf
 clear hO hf hce
 have HKEY := Lib.hid hkey
 clear hkey
 go_enter Tryz.func39, Tryz.ntmps39
 go_upto_region 1 with (fail)
 have hzw : (w.alloc (.cells #[.int .i64 g.b.cells, vn, vt, vk, .int .i64 g.rights, .bool g.must, vc, .int .i64 g.blocked, .int .i64 g.endless] 38)).alloc (.cells #[.int .i64 0, .slice none 0 0, .slice none 0 0, .slice none 0 0, .int .i64 0, .bool false, .slice none 0 0, .int .i64 0, .int .i64 0] 38) = (w.alloc (.cells #[.int .i64 g.b.cells, vn, vt, vk, .int .i64 g.rights, .bool g.must, vc, .int .i64 g.blocked, .int .i64 g.endless] 38)).alloc (.cells zeroC 38) := rfl
 (try rw [hzw])
 clear hzw
 obtain ⟨r, hr⟩ : ∃ r, w.heap.size = r := ⟨_, rfl⟩
 rw [hr] at hx1 hx2
 (try simp only [hr])
 have HRE := Lib.hid hr
 clear hr
 generalize (w.alloc (.cells #[.int .i64 g.b.cells, vn, vt, vk, .int .i64 g.rights, .bool g.must, vc, .int .i64 g.blocked, .int .i64 g.endless] 38)).alloc (.cells zeroC 38) = w1 at *
 go_wp2_with fail
 refine HCUT.out.mono ?_
 rintro e w2 ⟨v, rfl, hv, hb2⟩
 have HX2 := Lib.hid ((hb2.block _ (bx_lt hx1)).trans hx1)
 have HZ2 := Lib.hid ((hb2.block _ (bx_lt hx2)).trans hx2)
 have HO2 := Lib.hid (hO1.up hb2)
 have HB2 := Lib.hid (below_step hbA hb2)
 have HW2 := Lib.hid (hv.words hc1)
 obtain ⟨gw, cw, rfl, _, _, hcw, hcell⟩ := hv.cells hc1
 clear hx1 hx2 hb2 hbA hO1 HCUT hv
 obtain ⟨m, hm⟩ : ∃ m, ws.length = m + 1 := ⟨ws.length - 1, by omega⟩
 have z0 := hcell 0 (by omega)
 have zm := hcell m (by omega)
 rw [Nat.zero_add] at z0 zm
 have HHD : Hid (headW ws = ws[0]'(by omega)) := Lib.hid (by
   cases ws with
   | nil => simp at hm
   | cons a b => rfl)
 have HLA : Hid (lastW ws = ws[m]'(by omega)) := Lib.hid (last_at ws m hm)
 obtain ⟨x, hx⟩ : ∃ x, ws[0]'(by omega) = x := ⟨_, rfl⟩
 obtain ⟨la, hla⟩ : ∃ x, ws[m]'(by omega) = x := ⟨_, rfl⟩
 rw [hx] at z0 HHD
 rw [hla] at zm HLA
 have HML := Lib.hid hm
 rw [hm] at hn hcw ⊢
 have HLL : Hid (la.length ≤ 1000000) := Lib.hid (by rw [← hla]; exact HWL.out _ (List.getElem_mem _))
 clear hx hla hcell hc1 hm
 have b1 : (0 : Int) ≤ (m : Int) := by omega
 have y1 : IntKind.i64.wrap (((m + 1 : Nat) : Int) - 1) = (m : Int) := by
   have e : ((m + 1 : Nat) : Int) - 1 = (m : Int) := by omega
   rw [e]; exact IntWalk.i64_in _ (by omega)
 have y2 : IntKind.i64.wrap ((m : Int) + 1 - 1) = (m : Int) := by
   have e : (m : Int) + 1 - 1 = (m : Int) := by omega
   rw [e]; exact IntWalk.i64_in _ (by omega)
 go_upto_block 0 with (fail)
 clear z0 zm y1 y2
 have c1 : (1 : Int) ≤ (m : Int) + 1 := by omega
 have c2 : (m : Int) + 1 ≤ (cw : Int) := by omega
 go_cut [7, 8, 9, 10] from 22 to 163 (fun _s7 _s8 _s9 _s10 wx => GrowEnd h r w g' wx)
 case first =>
   by_cases hkn : keyNo x = none
   case pos =>
     exact absurd ((show keyNo (headW ws) = none by rw [HHD.out]; exact hkn).symm.trans HKEY.out) (by simp)
   obtain ⟨i, hi, hk, hxe⟩ : ∃ i, ∃ h : i < keysK.length, keyNo x = some i ∧ x = keysK[i] := by
     rcases key_cases x with h | ⟨h, _⟩
     · exact h
     · exact absurd h hkn
   have HGI : Hid (g' = growN g i s ws) := Lib.hid (by rw [HGS.out, HHD.out, hk]);clear hkn;have hi2 : i < 12 := hi
   rcases (show i = 0 ∨ i = 1 ∨ i = 2 ∨ i = 3 ∨ i = 4 ∨ i = 5 ∨ i = 6 ∨ i = 7 ∨ i = 8 ∨ i = 9 ∨ i = 10 ∨ i = 11 by omega) with rfl | rfl | rfl | rfl | rfl | rfl | rfl | rfl | rfl | rfl | rfl | rfl
   · exact absurd ((show keyNo (headW ws) = some 0 by rw [HHD.out]; exact hk).symm.trans HKEY.out) (by decide)
   · exact absurd ((show keyNo (headW ws) = some 1 by rw [HHD.out]; exact hk).symm.trans HKEY.out) (by decide)
   · exact absurd ((show keyNo (headW ws) = some 2 by rw [HHD.out]; exact hk).symm.trans HKEY.out) (by decide)
   · exact absurd ((show keyNo (headW ws) = some 3 by rw [HHD.out]; exact hk).symm.trans HKEY.out) (by decide)
   · exact absurd ((show keyNo (headW ws) = some 4 by rw [HHD.out]; exact hk).symm.trans HKEY.out) (by decide)
   · exact absurd ((show keyNo (headW ws) = some 5 by rw [HHD.out]; exact hk).symm.trans HKEY.out) (by decide)
   · exact absurd ((show keyNo (headW ws) = some 6 by rw [HHD.out]; exact hk).symm.trans HKEY.out) (by decide)
   · exact absurd ((show keyNo (headW ws) = some 7 by rw [HHD.out]; exact hk).symm.trans HKEY.out) (by decide)
   · exact absurd ((show keyNo (headW ws) = some 8 by rw [HHD.out]; exact hk).symm.trans HKEY.out) (by decide)
   · obtain rfl : x = [102, 101, 119] := hxe
     clear hk hi hi2 HKEY
     have HS := Lib.hid (fun W (hW : Below w2.heap.size w2 W) => rsecond_any _ ws W (HW2.out.up hW) (by have := HML.out; omega))
     rw [HML.out] at HS
     have HSL : Hid ((secW ws).length ≤ 1000000) := Lib.hid (by
       unfold secW
       cases he : ws[1]? with
       | none => simp
       | some y => exact HWL.out y (List.mem_of_getElem? he))
     obtain ⟨sw, hsw⟩ : ∃ y, secW ws = y := ⟨_, rfl⟩;have HSW := Lib.hid hsw;rw [hsw] at HS HSL;clear hsw;have HOC := Lib.hid (fun W (hW : Below w2.heap.size w2 W) => routcome_any la W);have HNC := Lib.hid (fun W (hW : Below w2.heap.size w2 W) => rnumber_any sw W HSL.out);obtain ⟨rn, hrn⟩ : ∃ z, resN la = z := ⟨_, rfl⟩;have HRN := Lib.hid hrn;rw [hrn] at HOC;clear hrn;obtain ⟨nd, hnd⟩ : ∃ z, numR sw = z := ⟨_, rfl⟩;have HND := Lib.hid hnd;rw [hnd] at HNC;clear hnd
     replace HGI : Hid (g' = { g with clauses := g.clauses ++ [⟨3, 0, nd, rn⟩] }) := Lib.hid (by rw [HGI.out]; show ({ g with clauses := g.clauses ++ [(⟨3, 0, numR (secW ws), resN (lastW ws)⟩ : ClauseD)] } : GameD) = _; rw [HSW.out, HND.out, HLA.out, HRN.out])
     go_upto_region 29 with (fail);refine wp_region_held_drew (S := fun _ => True) (by kernel_rfl) trivial (fun hHeld => ?_);have HBN := Lib.hid (Below.refl w2.heap.size w2).drew;generalize w2.drew = u0 at *;clear hHeld;have hTr : True := trivial;refine TK 0 ?_;(try simp only [pS]);refine TK 2 ?_;(try simp only [pS]);refine TK 5 ?_;(try simp only [pS]);refine wpAnyH_ready (rs := [1, 3]) (by kernel_rfl) (by simp) ?_;refine (AC (fun K hK => ?_) (AC (fun K hK => ?_) AllReadyH.nil));have q := bx_cell ((HBN.out.block _ (bx_lt HX2.out)).trans HX2.out) 6 rfl;go_simp;refine hK.out _ _ trivial (fun _ => ?_);clear hK K;(try simp only [pS]);clear q;refine wpAnyH_ready (rs := [3]) (by kernel_rfl) (by simp) ?_;refine (AC (fun K hK => ?_) AllReadyH.nil)
     refine step_call_g rfl 76 _ _ #[.slice (some ⟨gw, 0, none⟩) (m + 1) cw] rfl rfl (enters_of Tryz.func76 (by kernel_rfl) rfl) ((HS.out u0 HBN.out).mono ?_);rintro e w9 ⟨rfl, e9⟩;subst w9;refine ⟨_, rfl, hK.out _ _ trivial (fun _ => ?_)⟩;clear hK K;(try simp only [pS]);refine wpAnyH_ready (rs := [4]) (by kernel_rfl) (by simp) ?_;refine (AC (fun K hK => ?_) AllReadyH.nil);refine step_call_g rfl 75 _ _ #[.string ⟨sw.toArray⟩] rfl rfl (enters_of Tryz.func75 (by kernel_rfl) rfl) ((HNC.out u0 HBN.out).mono ?_);rintro e u1 ⟨rfl, hb⟩;refine ⟨_, rfl, hK.out _ _ trivial (fun _ => ?_)⟩;clear hK K;(try simp only [pS]);(try replace HBL := Lib.hid ((hb.block _ (bx_lt HBL.out)).trans HBL.out));replace HBN := Lib.hid (below_step HBN.out hb);clear hb;refine wpAnyH_ready (rs := [6]) (by kernel_rfl) (by simp) ?_;refine (AC (fun K hK => ?_) AllReadyH.nil)
     refine step_call_g rfl 79 _ _ #[.string ⟨la.toArray⟩] rfl rfl (enters_of Tryz.func79 (by kernel_rfl) rfl) ((HOC.out u1 HBN.out).mono ?_);rintro e u2 ⟨rfl, hb⟩;refine ⟨_, rfl, hK.out _ _ trivial (fun _ => ?_)⟩;clear hK K;(try simp only [pS]);refine TK 7 ?_;(try simp only [pS]);(try replace HBL := Lib.hid ((hb.block _ (bx_lt HBL.out)).trans HBL.out));replace HBN := Lib.hid (below_step HBN.out hb);clear hb;refine wpAnyH_ready (rs := [8]) (by kernel_rfl) (by simp) ?_;refine (AC (fun K hK => ?_) AllReadyH.nil);go_simp;refine hK.out _ _ trivial (fun _ => ?_);clear hK K;(try simp only [pS]);have hb := below_alloc (Below.refl _ u2) (.cells #[.int .i64 3, .int .i64 0, .int .i64 nd, .int .i64 rn] 70)
     have hz : (u2.alloc (.cells #[.int .i64 3, .int .i64 0, .int .i64 nd, .int .i64 rn] 70)).heap[u2.heap.size]? = some (.cells #[.int .i64 3, .int .i64 0, .int .i64 nd, .int .i64 rn] 70 (0, 0)) := hpn _ rfl;obtain ⟨bs, hbe⟩ : ∃ b, u2.heap.size = b := ⟨_, rfl⟩;(try simp only [hbe]);rw [hbe] at hz;have HBL := Lib.hid hz;replace HBN := Lib.hid (below_step HBN.out hb);clear hb hz hbe;generalize u2.alloc (.cells #[.int .i64 3, .int .i64 0, .int .i64 nd, .int .i64 rn] 70) = u3 at *;rotate_left 1;refine step_call_g rfl 76 _ _ #[.slice (some ⟨gw, 0, none⟩) (m + 1) cw] rfl rfl (enters_of Tryz.func76 (by kernel_rfl) rfl) ((HS.out u0 HBN.out).mono ?_);rintro e w9 ⟨rfl, e9⟩;subst w9;refine ⟨_, rfl, hK.out _ _ trivial (fun _ => ?_)⟩;clear hK K;(try simp only [pS]);refine wpAnyH_ready (rs := [1, 4]) (by kernel_rfl) (by simp) ?_;refine (AC (fun K hK => ?_) (AC (fun K hK => ?_) AllReadyH.nil))
     have q := bx_cell ((HBN.out.block _ (bx_lt HX2.out)).trans HX2.out) 6 rfl;go_simp;refine hK.out _ _ trivial (fun _ => ?_);clear hK K;(try simp only [pS]);clear q;refine wpAnyH_ready (rs := [4]) (by kernel_rfl) (by simp) ?_;refine (AC (fun K hK => ?_) AllReadyH.nil);refine step_call_g rfl 75 _ _ #[.string ⟨sw.toArray⟩] rfl rfl (enters_of Tryz.func75 (by kernel_rfl) rfl) ((HNC.out u0 HBN.out).mono ?_);rintro e u1 ⟨rfl, hb⟩;refine ⟨_, rfl, hK.out _ _ trivial (fun _ => ?_)⟩;clear hK K;(try simp only [pS]);(try replace HBL := Lib.hid ((hb.block _ (bx_lt HBL.out)).trans HBL.out));replace HBN := Lib.hid (below_step HBN.out hb);clear hb;refine wpAnyH_ready (rs := [6]) (by kernel_rfl) (by simp) ?_;refine (AC (fun K hK => ?_) AllReadyH.nil);refine step_call_g rfl 79 _ _ #[.string ⟨la.toArray⟩] rfl rfl (enters_of Tryz.func79 (by kernel_rfl) rfl) ((HOC.out u1 HBN.out).mono ?_)
     rintro e u2 ⟨rfl, hb⟩;refine ⟨_, rfl, hK.out _ _ trivial (fun _ => ?_)⟩;clear hK K;(try simp only [pS]);refine TK 7 ?_;(try simp only [pS]);(try replace HBL := Lib.hid ((hb.block _ (bx_lt HBL.out)).trans HBL.out));replace HBN := Lib.hid (below_step HBN.out hb);clear hb;refine wpAnyH_ready (rs := [8]) (by kernel_rfl) (by simp) ?_;refine (AC (fun K hK => ?_) AllReadyH.nil);go_simp;refine hK.out _ _ trivial (fun _ => ?_);clear hK K;(try simp only [pS]);have hb := below_alloc (Below.refl _ u2) (.cells #[.int .i64 3, .int .i64 0, .int .i64 nd, .int .i64 rn] 70);have hz : (u2.alloc (.cells #[.int .i64 3, .int .i64 0, .int .i64 nd, .int .i64 rn] 70)).heap[u2.heap.size]? = some (.cells #[.int .i64 3, .int .i64 0, .int .i64 nd, .int .i64 rn] 70 (0, 0)) := hpn _ rfl;obtain ⟨bs, hbe⟩ : ∃ b, u2.heap.size = b := ⟨_, rfl⟩;(try simp only [hbe]);rw [hbe] at hz;have HBL := Lib.hid hz
     replace HBN := Lib.hid (below_step HBN.out hb);clear hb hz hbe;generalize u2.alloc (.cells #[.int .i64 3, .int .i64 0, .int .i64 nd, .int .i64 rn] 70) = u3 at *;rotate_left 1;refine step_call_g rfl 75 _ _ #[.string ⟨sw.toArray⟩] rfl rfl (enters_of Tryz.func75 (by kernel_rfl) rfl) ((HNC.out u0 HBN.out).mono ?_);rintro e u1 ⟨rfl, hb⟩;refine ⟨_, rfl, hK.out _ _ trivial (fun _ => ?_)⟩;clear hK K;(try simp only [pS]);(try replace HBL := Lib.hid ((hb.block _ (bx_lt HBL.out)).trans HBL.out));replace HBN := Lib.hid (below_step HBN.out hb);clear hb;refine wpAnyH_ready (rs := [1, 6]) (by kernel_rfl) (by simp) ?_;refine (AC (fun K hK => ?_) (AC (fun K hK => ?_) AllReadyH.nil));have q := bx_cell ((HBN.out.block _ (bx_lt HX2.out)).trans HX2.out) 6 rfl;go_simp;refine hK.out _ _ trivial (fun _ => ?_);clear hK K;(try simp only [pS]);clear q
     refine wpAnyH_ready (rs := [6]) (by kernel_rfl) (by simp) ?_;refine (AC (fun K hK => ?_) AllReadyH.nil);refine step_call_g rfl 79 _ _ #[.string ⟨la.toArray⟩] rfl rfl (enters_of Tryz.func79 (by kernel_rfl) rfl) ((HOC.out u1 HBN.out).mono ?_);rintro e u2 ⟨rfl, hb⟩;refine ⟨_, rfl, hK.out _ _ trivial (fun _ => ?_)⟩;clear hK K;(try simp only [pS]);refine TK 7 ?_;(try simp only [pS]);(try replace HBL := Lib.hid ((hb.block _ (bx_lt HBL.out)).trans HBL.out));replace HBN := Lib.hid (below_step HBN.out hb);clear hb;refine wpAnyH_ready (rs := [8]) (by kernel_rfl) (by simp) ?_;refine (AC (fun K hK => ?_) AllReadyH.nil);go_simp;refine hK.out _ _ trivial (fun _ => ?_);clear hK K;(try simp only [pS]);have hb := below_alloc (Below.refl _ u2) (.cells #[.int .i64 3, .int .i64 0, .int .i64 nd, .int .i64 rn] 70)
     have hz : (u2.alloc (.cells #[.int .i64 3, .int .i64 0, .int .i64 nd, .int .i64 rn] 70)).heap[u2.heap.size]? = some (.cells #[.int .i64 3, .int .i64 0, .int .i64 nd, .int .i64 rn] 70 (0, 0)) := hpn _ rfl;obtain ⟨bs, hbe⟩ : ∃ b, u2.heap.size = b := ⟨_, rfl⟩;(try simp only [hbe]);rw [hbe] at hz;have HBL := Lib.hid hz;replace HBN := Lib.hid (below_step HBN.out hb);clear hb hz hbe;generalize u2.alloc (.cells #[.int .i64 3, .int .i64 0, .int .i64 nd, .int .i64 rn] 70) = u3 at *;rotate_left 1;refine step_call_g rfl 79 _ _ #[.string ⟨la.toArray⟩] rfl rfl (enters_of Tryz.func79 (by kernel_rfl) rfl) ((HOC.out u1 HBN.out).mono ?_);rintro e u2 ⟨rfl, hb⟩;refine ⟨_, rfl, hK.out _ _ trivial (fun _ => ?_)⟩;clear hK K;(try simp only [pS]);refine TK 7 ?_;(try simp only [pS]);(try replace HBL := Lib.hid ((hb.block _ (bx_lt HBL.out)).trans HBL.out));replace HBN := Lib.hid (below_step HBN.out hb)
     clear hb;refine wpAnyH_ready (rs := [1, 8]) (by kernel_rfl) (by simp) ?_;refine (AC (fun K hK => ?_) (AC (fun K hK => ?_) AllReadyH.nil));have q := bx_cell ((HBN.out.block _ (bx_lt HX2.out)).trans HX2.out) 6 rfl;go_simp;refine hK.out _ _ trivial (fun _ => ?_);clear hK K;(try simp only [pS]);clear q;refine wpAnyH_ready (rs := [8]) (by kernel_rfl) (by simp) ?_;refine (AC (fun K hK => ?_) AllReadyH.nil);go_simp;refine hK.out _ _ trivial (fun _ => ?_);clear hK K;(try simp only [pS]);have hb := below_alloc (Below.refl _ u2) (.cells #[.int .i64 3, .int .i64 0, .int .i64 nd, .int .i64 rn] 70);have hz : (u2.alloc (.cells #[.int .i64 3, .int .i64 0, .int .i64 nd, .int .i64 rn] 70)).heap[u2.heap.size]? = some (.cells #[.int .i64 3, .int .i64 0, .int .i64 nd, .int .i64 rn] 70 (0, 0)) := hpn _ rfl;obtain ⟨bs, hbe⟩ : ∃ b, u2.heap.size = b := ⟨_, rfl⟩;(try simp only [hbe]);rw [hbe] at hz
     have HBL := Lib.hid hz;replace HBN := Lib.hid (below_step HBN.out hb);clear hb hz hbe;generalize u2.alloc (.cells #[.int .i64 3, .int .i64 0, .int .i64 nd, .int .i64 rn] 70) = u3 at *;rotate_left 1;go_simp;refine hK.out _ _ trivial (fun _ => ?_);clear hK K;(try simp only [pS]);have hb := below_alloc (Below.refl _ u2) (.cells #[.int .i64 3, .int .i64 0, .int .i64 nd, .int .i64 rn] 70);have hz : (u2.alloc (.cells #[.int .i64 3, .int .i64 0, .int .i64 nd, .int .i64 rn] 70)).heap[u2.heap.size]? = some (.cells #[.int .i64 3, .int .i64 0, .int .i64 nd, .int .i64 rn] 70 (0, 0)) := hpn _ rfl;obtain ⟨bs, hbe⟩ : ∃ b, u2.heap.size = b := ⟨_, rfl⟩;(try simp only [hbe]);rw [hbe] at hz;have HBL := Lib.hid hz;replace HBN := Lib.hid (below_step HBN.out hb);clear hb hz hbe;generalize u2.alloc (.cells #[.int .i64 3, .int .i64 0, .int .i64 nd, .int .i64 rn] 70) = u3 at *
     refine wpAnyH_ready (rs := [1]) (by kernel_rfl) (by simp) ?_;refine (AC (fun K hK => ?_) AllReadyH.nil);have q := bx_cell ((HBN.out.block _ (bx_lt HX2.out)).trans HX2.out) 6 rfl;go_simp;refine hK.out _ _ trivial (fun _ => ?_);clear hK K;(try simp only [pS]);clear q;rotate_left 1
     all_goals
       have HXU := Lib.hid ((HBN.out.block _ (bx_lt HX2.out)).trans HX2.out);have HZU := Lib.hid ((HBN.out.block _ (bx_lt HZ2.out)).trans HZ2.out);have HOU := Lib.hid (HO2.out.up HBN.out);have HBU := Lib.hid ((below_step HB2.out HBN.out).mono hh);refine wpAnyH_ready (rs := [9]) (by kernel_rfl) (by simp) ?_;refine AC (fun K hK => ?_) AllReadyH.nil
       refine step_pushC rfl 36 70 (.agg #[.int .i64 0, .int .i64 0, .int .i64 0, .int .i64 0]) 4 32 Tryz.underlying36 info_clauseC rfl (by decide) (by decide) (.tmp 144) (.tmp 151) rfl h vc g.clauses.length (flatC g.clauses) rfl HOU.out.clauses (by have := HF.out.clauses; omega) (Nat.le_trans hh HBU.out.size) bs 1 [.int .i64 3, .int .i64 0, .int .i64 nd, .int .i64 rn] rfl rfl HBL.out (by simp [Value.oneCell']) (fun g7 cap w7 hown hg hat => ?_)
       refine hK.out _ _ trivial (fun _ => ?_);clear hK K;(try simp only [pS]);have hx7 := grown_box HOU.out.clauses hg HXU.out (by decide);have hz7 := grown_box HOU.out.clauses hg HZU.out (by decide);have hO7 := clause_more (c := ⟨3, 0, nd, rn⟩) HOU.out hg hown;have hlow := HBU.out.trans (grown_low HOU.out.clauses hg (Nat.le_trans hh HBU.out.size))
       have HE : Hid (GrowEnd h r w g' (w7.setCell ⟨r, 6, none⟩ (.slice (some ⟨g7, 0, none⟩) (g.clauses.length + 1) cap))) := Lib.hid (by
         rw [HGI.out]
         exact growEnd_set (by rw [← HRE.out]; exact hh) hh hlow hx7 hz7 hO7 (by unfold gcs; simp))
       have q := bx_cell hx7 6 rfl;have f := bx_frozen hx7 6;clear hlow hO7 hg hown hat hz7;refine TK 10 ?_;(try simp only [pS]);refine wpAnyH_ready (rs := [11]) (by kernel_rfl) (by simp) ?_;refine AC (fun K hK => ?_) AllReadyH.nil;go_simp;refine hK.out _ _ trivial (fun _ => ?_);clear hK K;(try simp only [Act.put]);refine wpAnyH_done (by kernel_rfl) ?_ _;clear hx7 q f
       go_wp2_with fail
       go_meet
       exact HE.out
   · exact absurd ((show keyNo (headW ws) = some 10 by rw [HHD.out]; exact hk).symm.trans HKEY.out) (by decide)
   · exact absurd ((show keyNo (headW ws) = some 11 by rw [HHD.out]; exact hk).symm.trans HKEY.out) (by decide)
 case rest =>
   obtain ⟨vn', vt', vk', vc', hx, hz, hO, hb⟩ := hcut
   have hone : (gcs g' vn' vt' vk' vc').all (·.oneCell') = true := by
     obtain ⟨y, hy, _⟩ := hO.game
     rw [hy]; simp [GameD.cells, Value.oneCell']
   have hsz : (gcs g' vn' vt' vk' vc').size = 9 := rfl
   have hal : Alters (fun b => b = r + 1) wc (wc.setRow (r + 1) (gcs g' vn' vt' vk' vc')) := ⟨rfl, rfl, rfl, by rw [size_setRow]; exact Nat.le_refl _, fun k _ hs => setRow_other wc (r + 1) k _ hs⟩
   have HQ : Hid ((wc.setRow (r + 1) (gcs g' vn' vt' vk' vc')).heap[r + 1]? = some (.cells (gcs g' vn' vt' vk' vc') 38 (0, 0))) := Lib.hid (setRow_heap wc (r + 1) _ _ _ _ hz)
   have HFIN : Hid (∃ a1 a2 a3 a4, Ending.returned (.agg (gcs g' vn' vt' vk' vc')) = .returned (.agg (gcs g' a1 a2 a3 a4)) ∧ OwnD h (wc.setRow (r + 1) (gcs g' vn' vt' vk' vc')) a1 a2 a3 a4 g' ∧ Below h w (wc.setRow (r + 1) (gcs g' vn' vt' vk' vc'))) :=
     Lib.hid ⟨_, _, _, _, rfl, hO.alt hal (notTs_box hz), hb.trans (hal.below (Nat.le_trans hh hb.size) (fun k hk => by have hk : k = r + 1 := hk; have := HRE.out; omega))⟩
   have HX := Lib.hid hx;have HZ := Lib.hid hz;have HONE := Lib.hid hone;have HSZ := Lib.hid hsz;clear hx hz hO hb hone hsz hal;generalize gcs g' vn' vt' vk' vc' = CC at *
   have HIS : Hid ((Tryz.prog.info? 38).map (·.size) = some CC.size) := Lib.hid (by rw [HSZ.out]; exact info_gameC)
   have HZS : Hid (zeroC.size = CC.size) := Lib.hid (by rw [HSZ.out]; rfl)
   go_wp2_with (first | (refine wpList_load_row rfl 38 (.tmp 2) rfl r rfl 38 CC (0, 0) _ HX.out Tryz.underlying38 rfl HIS.out ?_) | (refine wpList_store_row rfl 38 (.tmp 4) (.tmp 164) rfl (r + 1) CC rfl rfl 38 zeroC HZ.out HIS.out HZS.out HONE.out ?_));(try simp only [Exit.inBlock, Exit.then]);refine bodyPost_ret_by (v := .agg CC) (results_cell_row rfl _ _ (r + 1) 38 _ (0, 0) _ rfl HQ.out Tryz.underlying38 rfl HIS.out) rfl ?_;exact HFIN.out
end Go.Proofs.YtbmcngoeinginaaGreatDoor
