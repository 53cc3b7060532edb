/-
 Of the reference: grow.
-/
import Derived.Test.YtbmcngoeinginaaGreatDoorTk
import Derived.Test.YtbmcngoeinginaaGreatDoorKGrP
import Derived.Deep.DeepCutAuto
import Derived.Deep.CutBlock
namespace Go.Proofs.YtbmcngoeinginaaGreatDoor
open Go Go.RowKit Go.Lib
attribute [local irreducible] Go.wpQuiet
set_option maxRecDepth 100000 in
set_option maxHeartbeats 4000000 in
theorem grow_1 (h : Nat) (g : GameD) (vn vt vk vc : Value) (s : List UInt8) (w : World) (hh : h ≤ w.heap.size) (hs : s.length ≤ 100000) (hn : (cutS s 32).length ≤ 1900) (hf : Few 1900 g) (hkey : keyNo (headW (cutS s 32)) = some 1) (hO : OwnD h w vn vt vk vc g) :
   Calls Tryz.prog 39 #[.agg (gcs g vn vt vk vc), .string ⟨s.toArray⟩] w fun e w' => ∃ vn' vt' vk' vc', e = .returned (.agg (gcs (growS g s) vn' vt' vk' vc')) ∧ OwnD h w' vn' vt' vk' vc' (growS g s) ∧ Below h w w' := by
 have hbA : Below w.heap.size w ((w.alloc (.cells #[.int .i64 g.b.cells, vn, vt, vk, .int .i64 g.rights, .bool g.must, vc, .int .i64 g.blocked, .int .i64 g.endless] 38)).alloc (.cells zeroC 38)) := below_alloc (below_alloc (Below.refl _ w) _) _
 have hx1 : ((w.alloc (.cells #[.int .i64 g.b.cells, vn, vt, vk, .int .i64 g.rights, .bool g.must, vc, .int .i64 g.blocked, .int .i64 g.endless] 38)).alloc (.cells zeroC 38)).heap[w.heap.size]? = some (.cells #[.int .i64 g.b.cells, vn, vt, vk, .int .i64 g.rights, .bool g.must, vc, .int .i64 g.blocked, .int .i64 g.endless] 38 (0, 0)) := hpo (hpn _ rfl)
 have hx2 : ((w.alloc (.cells #[.int .i64 g.b.cells, vn, vt, vk, .int .i64 g.rights, .bool g.must, vc, .int .i64 g.blocked, .int .i64 g.endless] 38)).alloc (.cells zeroC 38)).heap[w.heap.size + 1]? = some (.cells zeroC 38 (0, 0)) := hpn _ (by simp)
 have hc1 := cut_one s 32
 have hce := cut_each s 32
 have HGS : Hid (growS g s = match keyNo (headW (cutS s 32)) with | some i => growN g i s (cutS s 32) | none => g) := Lib.hid rfl
 have HCUT : Hid (Calls Tryz.prog 28 #[.string ⟨s.toArray⟩, .int .u8 32] ((w.alloc (.cells #[.int .i64 g.b.cells, vn, vt, vk, .int .i64 g.rights, .bool g.must, vc, .int .i64 g.blocked, .int .i64 g.endless] 38)).alloc (.cells zeroC 38)) fun e w' => ∃ v, e = .returned v ∧ OwnStrs ((w.alloc (.cells #[.int .i64 g.b.cells, vn, vt, vk, .int .i64 g.rights, .bool g.must, vc, .int .i64 g.blocked, .int .i64 g.endless] 38)).alloc (.cells zeroC 38)).heap.size w' v (cutS s 32) ∧ Below ((w.alloc (.cells #[.int .i64 g.b.cells, vn, vt, vk, .int .i64 g.rights, .bool g.must, vc, .int .i64 g.blocked, .int .i64 g.endless] 38)).alloc (.cells zeroC 38)).heap.size ((w.alloc (.cells #[.int .i64 g.b.cells, vn, vt, vk, .int .i64 g.rights, .bool g.must, vc, .int .i64 g.blocked, .int .i64 g.endless] 38)).alloc (.cells zeroC 38)) w') := Lib.hid (rcut_any s 32 _ (by omega) hn)
 have hO1 := hO.up hbA
 unfold gcs
 generalize hG' : growS g s = g' at *
 clear hG'
 generalize hWS : cutS s 32 = ws at *
 clear hWS
 have HWL : Hid (∀ x ∈ ws, x.length ≤ 1000000) := Lib.hid (fun x hx => by have := hce x hx; omega)
 have HF := Lib.hid hf
 clear hO hf hce
 have HKEY := Lib.hid hkey
 clear hkey
 go_enter Tryz.func39, Tryz.ntmps39
 go_upto_region 1 with (fail)
 have hzw : (w.alloc (.cells #[.int .i64 g.b.cells, vn, vt, vk, .int .i64 g.rights, .bool g.must, vc, .int .i64 g.blocked, .int .i64 g.endless] 38)).alloc (.cells #[.int .i64 0, .slice none 0 0, .slice none 0 0, .slice none 0 0, .int .i64 0, .bool false, .slice none 0 0, .int .i64 0, .int .i64 0] 38) = (w.alloc (.cells #[.int .i64 g.b.cells, vn, vt, vk, .int .i64 g.rights, .bool g.must, vc, .int .i64 g.blocked, .int .i64 g.endless] 38)).alloc (.cells zeroC 38) := rfl
 (try rw [hzw])
 clear hzw
 obtain ⟨r, hr⟩ : ∃ r, w.heap.size = r := ⟨_, rfl⟩
 rw [hr] at hx1 hx2
 (try simp only [hr])
 have HRE := Lib.hid hr
 clear hr
 generalize (w.alloc (.cells #[.int .i64 g.b.cells, vn, vt, vk, .int .i64 g.rights, .bool g.must, vc, .int .i64 g.blocked, .int .i64 g.endless] 38)).alloc (.cells zeroC 38) = w1 at *
 go_wp2_with fail
 refine HCUT.out.mono ?_
 rintro e w2 ⟨v, rfl, hv, hb2⟩
 have HX2 := Lib.hid ((hb2.block _ (bx_lt hx1)).trans hx1)
 have HZ2 := Lib.hid ((hb2.block _ (bx_lt hx2)).trans hx2)
 have HO2 := Lib.hid (hO1.up hb2)
 have HB2 := Lib.hid (below_step hbA hb2)
 have HW2 := Lib.hid (hv.words hc1)
 obtain ⟨gw, cw, rfl, _, _, hcw, hcell⟩ := hv.cells hc1
 clear hx1 hx2 hb2 hbA hO1 HCUT hv
 obtain ⟨m, hm⟩ : ∃ m, ws.length = m + 1 := ⟨ws.length - 1, by omega⟩
 have z0 := hcell 0 (by omega)
 have zm := hcell m (by omega)
 rw [Nat.zero_add] at z0 zm
 have HHD : Hid (headW ws = ws[0]'(by omega)) := Lib.hid (by
   cases ws with
   | nil => simp at hm
   | cons a b => rfl)
 have HLA : Hid (lastW ws = ws[m]'(by omega)) := Lib.hid (last_at ws m hm)
 obtain ⟨x, hx⟩ : ∃ x, ws[0]'(by omega) = x := ⟨_, rfl⟩
 obtain ⟨la, hla⟩ : ∃ x, ws[m]'(by omega) = x := ⟨_, rfl⟩
 rw [hx] at z0 HHD
 rw [hla] at zm HLA
 have HML := Lib.hid hm
 rw [hm] at hn hcw ⊢
 have HLL : Hid (la.length ≤ 1000000) := Lib.hid (by rw [← hla]; exact HWL.out _ (List.getElem_mem _))
 clear hx hla hcell hc1 hm
 have b1 : (0 : Int) ≤ (m : Int) := by omega
 have y1 : IntKind.i64.wrap (((m + 1 : Nat) : Int) - 1) = (m : Int) := by
   have e : ((m + 1 : Nat) : Int) - 1 = (m : Int) := by omega
   rw [e]; exact IntWalk.i64_in _ (by omega)
 have y2 : IntKind.i64.wrap ((m : Int) + 1 - 1) = (m : Int) := by
   have e : (m : Int) + 1 - 1 = (m : Int) := by omega
   rw [e]; exact IntWalk.i64_in _ (by omega)
 go_upto_block 0 with (fail)
 clear z0 zm y1 y2
 have c1 : (1 : Int) ≤ (m : Int) + 1 := by omega
 have c2 : (m : Int) + 1 ≤ (cw : Int) := by omega
 go_cut [7, 8, 9, 10] from 22 to 163 (fun _s7 _s8 _s9 _s10 wx => GrowEnd h r w g' wx)
 case first =>
   by_cases hkn : keyNo x = none
   case pos =>
     exact absurd ((show keyNo (headW ws) = none by rw [HHD.out]; exact hkn).symm.trans HKEY.out) (by simp)
   obtain ⟨i, hi, hk, hxe⟩ : ∃ i, ∃ h : i < keysK.length, keyNo x = some i ∧ x = keysK[i] := by
     rcases key_cases x with h | ⟨h, _⟩
     · exact h
     · exact absurd h hkn
   have HGI : Hid (g' = growN g i s ws) := Lib.hid (by rw [HGS.out, HHD.out, hk]);clear hkn;have hi2 : i < 12 := hi
   rcases (show i = 0 ∨ i = 1 ∨ i = 2 ∨ i = 3 ∨ i = 4 ∨ i = 5 ∨ i = 6 ∨ i = 7 ∨ i = 8 ∨ i = 9 ∨ i = 10 ∨ i = 11 by omega) with rfl | rfl | rfl | rfl | rfl | rfl | rfl | rfl | rfl | rfl | rfl | rfl
   · exact absurd ((show keyNo (headW ws) = some 0 by rw [HHD.out]; exact hk).symm.trans HKEY.out) (by decide)
   · obtain rfl : x = [100, 105, 114] := hxe
     clear hk hi hi2 HKEY
     have HLS := Lib.hid (fun W (hW : Below w2.heap.size w2 W) (v' : Value) (hv : WordsIn w2 v' ws.tail) => rlist_any v' ws.tail W (hv.up hW) (by have := HML.out; simp; omega) (fun y hy => HWL.out y (List.mem_of_mem_tail hy)))
     have HWT := Lib.hid (fun a2 n2 k2 h1 h2 h3 => words_tail HML.out HW2.out a2 n2 k2 h1 h2 h3)
     have hcase : ((1 = cw) = True ∧ (cw = 1) = True) ∨ ((1 = cw) = False ∧ (cw = 1) = False) := by
       by_cases hc1 : cw = 1
       · left; subst hc1; exact ⟨by simp, by simp⟩
       · right; exact ⟨by simp; omega, by simp; omega⟩
     have HMZ : Hid (cw = 1 → m = 0) := Lib.hid (fun h => by omega)
     replace HGI : Hid (g' = { g with b := { g.b with next := g.b.next ++ [ws.tail.map numR] } }) := Lib.hid (by rw [HGI.out]; rfl)
     go_upto_region 7 with (fail)
     rcases hcase with ⟨e1, e2⟩ | ⟨e1, e2⟩
     · skip
       refine wp_region_held_drew (S := fun _ => True) (by kernel_rfl) trivial (fun hHeld => ?_);have HBN := Lib.hid (Below.refl w2.heap.size w2).drew;generalize w2.drew = u0 at *;clear hHeld;have hTr : True := trivial;refine TK 0 ?_;(try simp only [pS]);refine TK 1 ?_;(try simp only [pS]);refine TK 3 ?_;(try simp only [pS]);refine TK 4 ?_;(try simp only [pS]);refine wpAnyH_ready (rs := [2, 5]) (by kernel_rfl) (by simp) ?_;refine (AC (fun K hK => ?_) (AC (fun K hK => ?_) AllReadyH.nil));have q := bx_cell ((HBN.out.block _ (bx_lt HX2.out)).trans HX2.out) 1 rfl;go_simp;refine hK.out _ _ trivial (fun _ => ?_);clear hK K;(try simp only [pS]);clear q;refine wpAnyH_ready (rs := [5]) (by kernel_rfl) (by simp) ?_;refine (AC (fun K hK => ?_) AllReadyH.nil)
       refine step_call_g rfl 77 _ _ #[.slice (some ⟨gw, 0, none⟩) m (cw - 1)] rfl rfl (enters_of Tryz.func77 (by kernel_rfl) rfl) ((HLS.out u0 HBN.out _ (HWT.out (some ⟨gw, 0, none⟩) m (cw - 1) (by first | rfl | omega) (by first | omega | (have := HMZ.out (by simpa using e2); omega)) (by first | (right; rfl) | (left; exact HMZ.out (by simpa using e2))))).mono ?_)
       rintro e u1 ⟨vr, rfl, hvr, hb⟩;obtain ⟨av, cv, ev, _⟩ := OwnInts.ints hvr;obtain ⟨ln, hln⟩ : ∃ ln, (ws.tail.map numR).length = ln := ⟨_, rfl⟩;rw [hln] at ev;clear hln;subst ev;refine ⟨_, rfl, hK.out _ _ trivial (fun _ => ?_)⟩;clear hK K;(try simp only [pS]);have HVR := Lib.hid (OwnInts.mono hvr (Nat.le_trans (Nat.le_trans hh HB2.out.size) HBN.out.size));replace HBN := Lib.hid (below_step HBN.out hb);clear hb hvr;refine wpAnyH_ready (rs := [6]) (by kernel_rfl) (by simp) ?_;refine (AC (fun K hK => ?_) AllReadyH.nil);go_simp;refine hK.out _ _ trivial (fun _ => ?_);clear hK K;(try simp only [pS]);have hb := below_alloc (Below.refl _ u1) (.cells #[.slice av ln cv] 32);have hz : (u1.alloc (.cells #[.slice av ln cv] 32)).heap[u1.heap.size]? = some (.cells #[.slice av ln cv] 32 (0, 0)) := hpn _ rfl;obtain ⟨bs, hbe⟩ : ∃ b, u1.heap.size = b := ⟨_, rfl⟩;(try simp only [hbe])
       rw [hbe] at hz;have HBL := Lib.hid hz;replace HVR := Lib.hid (HVR.out.alters (S := fun _ => False) (Alters.of_below hb) (fun _ h => h.elim));replace HBN := Lib.hid (below_step HBN.out hb);clear hb hz hbe;generalize u1.alloc (.cells #[.slice av ln cv] 32) = u2 at *;rotate_left 1
       refine step_call_g rfl 77 _ _ #[.slice (some ⟨gw, 0, none⟩) m (cw - 1)] rfl rfl (enters_of Tryz.func77 (by kernel_rfl) rfl) ((HLS.out u0 HBN.out _ (HWT.out (some ⟨gw, 0, none⟩) m (cw - 1) (by first | rfl | omega) (by first | omega | (have := HMZ.out (by simpa using e2); omega)) (by first | (right; rfl) | (left; exact HMZ.out (by simpa using e2))))).mono ?_)
       rintro e u1 ⟨vr, rfl, hvr, hb⟩;obtain ⟨av, cv, ev, _⟩ := OwnInts.ints hvr;obtain ⟨ln, hln⟩ : ∃ ln, (ws.tail.map numR).length = ln := ⟨_, rfl⟩;rw [hln] at ev;clear hln;subst ev;refine ⟨_, rfl, hK.out _ _ trivial (fun _ => ?_)⟩;clear hK K;(try simp only [pS]);have HVR := Lib.hid (OwnInts.mono hvr (Nat.le_trans (Nat.le_trans hh HB2.out.size) HBN.out.size));replace HBN := Lib.hid (below_step HBN.out hb);clear hb hvr;refine wpAnyH_ready (rs := [2, 6]) (by kernel_rfl) (by simp) ?_;refine (AC (fun K hK => ?_) (AC (fun K hK => ?_) AllReadyH.nil));have q := bx_cell ((HBN.out.block _ (bx_lt HX2.out)).trans HX2.out) 1 rfl;go_simp;refine hK.out _ _ trivial (fun _ => ?_);clear hK K;(try simp only [pS]);clear q;refine wpAnyH_ready (rs := [6]) (by kernel_rfl) (by simp) ?_;refine (AC (fun K hK => ?_) AllReadyH.nil);go_simp;refine hK.out _ _ trivial (fun _ => ?_);clear hK K
       (try simp only [pS]);have hb := below_alloc (Below.refl _ u1) (.cells #[.slice av ln cv] 32);have hz : (u1.alloc (.cells #[.slice av ln cv] 32)).heap[u1.heap.size]? = some (.cells #[.slice av ln cv] 32 (0, 0)) := hpn _ rfl;obtain ⟨bs, hbe⟩ : ∃ b, u1.heap.size = b := ⟨_, rfl⟩;(try simp only [hbe]);rw [hbe] at hz;have HBL := Lib.hid hz;replace HVR := Lib.hid (HVR.out.alters (S := fun _ => False) (Alters.of_below hb) (fun _ h => h.elim));replace HBN := Lib.hid (below_step HBN.out hb);clear hb hz hbe;generalize u1.alloc (.cells #[.slice av ln cv] 32) = u2 at *;rotate_left 1;go_simp;refine hK.out _ _ trivial (fun _ => ?_);clear hK K;(try simp only [pS]);have hb := below_alloc (Below.refl _ u1) (.cells #[.slice av ln cv] 32);have hz : (u1.alloc (.cells #[.slice av ln cv] 32)).heap[u1.heap.size]? = some (.cells #[.slice av ln cv] 32 (0, 0)) := hpn _ rfl
       obtain ⟨bs, hbe⟩ : ∃ b, u1.heap.size = b := ⟨_, rfl⟩;(try simp only [hbe]);rw [hbe] at hz;have HBL := Lib.hid hz;replace HVR := Lib.hid (HVR.out.alters (S := fun _ => False) (Alters.of_below hb) (fun _ h => h.elim));replace HBN := Lib.hid (below_step HBN.out hb);clear hb hz hbe;generalize u1.alloc (.cells #[.slice av ln cv] 32) = u2 at *;refine wpAnyH_ready (rs := [2]) (by kernel_rfl) (by simp) ?_;refine (AC (fun K hK => ?_) AllReadyH.nil);have q := bx_cell ((HBN.out.block _ (bx_lt HX2.out)).trans HX2.out) 1 rfl;go_simp;refine hK.out _ _ trivial (fun _ => ?_);clear hK K;(try simp only [pS]);clear q;rotate_left 1
       all_goals
         have HXU := Lib.hid ((HBN.out.block _ (bx_lt HX2.out)).trans HX2.out);have HZU := Lib.hid ((HBN.out.block _ (bx_lt HZ2.out)).trans HZ2.out);have HOU := Lib.hid (HO2.out.up HBN.out);have HBU := Lib.hid ((below_step HB2.out HBN.out).mono hh);obtain ⟨rows, hrs⟩ := HOU.out.next;refine wpAnyH_ready (rs := [7]) (by kernel_rfl) (by simp) ?_;refine AC (fun K hK => ?_) AllReadyH.nil
         refine step_pushC rfl 31 32 (.slice none 0 0) 1 24 Tryz.underlying31 info_rowC rfl (by decide) (by decide) (.tmp 33) (.tmp 37) rfl h vn g.b.next.length rows rfl hrs.1 (by have := HF.out.next; omega) (Nat.le_trans hh HBU.out.size) bs 1 [.slice av ln cv] rfl rfl HBL.out (by simp [Value.oneCell']) (fun g7 cap w7 hown hg hat => ?_)
         refine hK.out _ _ trivial (fun _ => ?_);clear hK K;(try simp only [pS]);have hx7 := grown_box hrs.1 hg HXU.out (by decide);have hz7 := grown_box hrs.1 hg HZU.out (by decide);have hO7 := next_more HOU.out HVR.out hrs hg hown;have hlow := HBU.out.trans (grown_low hrs.1 hg (Nat.le_trans hh HBU.out.size))
         have HE : Hid (GrowEnd h r w g' (w7.setCell ⟨r, 1, none⟩ (.slice (some ⟨g7, 0, none⟩) (g.b.next.length + 1) cap))) := Lib.hid (by
           rw [HGI.out]
           exact growEnd_set (by rw [← HRE.out]; exact hh) hh hlow hx7 hz7 hO7 (by unfold gcs; simp))
         have q := bx_cell hx7 1 rfl;have f := bx_frozen hx7 1;clear hlow hO7 hg hown hat hz7;refine TK 8 ?_;(try simp only [pS]);refine TK 9 ?_;(try simp only [pS]);refine wpAnyH_ready (rs := [10]) (by kernel_rfl) (by simp) ?_;refine AC (fun K hK => ?_) AllReadyH.nil;go_simp;refine hK.out _ _ trivial (fun _ => ?_);clear hK K;(try simp only [Act.put]);refine wpAnyH_done (by kernel_rfl) ?_ _;clear hx7 q f
         go_wp2_with fail
         go_meet
         exact HE.out
     · skip
       refine wp_region_held_drew (S := fun _ => True) (by kernel_rfl) trivial (fun hHeld => ?_);have HBN := Lib.hid (Below.refl w2.heap.size w2).drew;generalize w2.drew = u0 at *;clear hHeld;have hTr : True := trivial;refine TK 0 ?_;(try simp only [pS]);refine TK 1 ?_;(try simp only [pS]);refine TK 3 ?_;(try simp only [pS]);refine TK 4 ?_;(try simp only [pS]);refine wpAnyH_ready (rs := [2, 5]) (by kernel_rfl) (by simp) ?_;refine (AC (fun K hK => ?_) (AC (fun K hK => ?_) AllReadyH.nil));have q := bx_cell ((HBN.out.block _ (bx_lt HX2.out)).trans HX2.out) 1 rfl;go_simp;refine hK.out _ _ trivial (fun _ => ?_);clear hK K;(try simp only [pS]);clear q;refine wpAnyH_ready (rs := [5]) (by kernel_rfl) (by simp) ?_;refine (AC (fun K hK => ?_) AllReadyH.nil)
       refine step_call_g rfl 77 _ _ #[.slice (some ⟨gw, 1, none⟩) m (cw - 1)] rfl rfl (enters_of Tryz.func77 (by kernel_rfl) rfl) ((HLS.out u0 HBN.out _ (HWT.out (some ⟨gw, 1, none⟩) m (cw - 1) (by first | rfl | omega) (by first | omega | (have := HMZ.out (by simpa using e2); omega)) (by first | (right; rfl) | (left; exact HMZ.out (by simpa using e2))))).mono ?_)
       rintro e u1 ⟨vr, rfl, hvr, hb⟩;obtain ⟨av, cv, ev, _⟩ := OwnInts.ints hvr;obtain ⟨ln, hln⟩ : ∃ ln, (ws.tail.map numR).length = ln := ⟨_, rfl⟩;rw [hln] at ev;clear hln;subst ev;refine ⟨_, rfl, hK.out _ _ trivial (fun _ => ?_)⟩;clear hK K;(try simp only [pS]);have HVR := Lib.hid (OwnInts.mono hvr (Nat.le_trans (Nat.le_trans hh HB2.out.size) HBN.out.size));replace HBN := Lib.hid (below_step HBN.out hb);clear hb hvr;refine wpAnyH_ready (rs := [6]) (by kernel_rfl) (by simp) ?_;refine (AC (fun K hK => ?_) AllReadyH.nil);go_simp;refine hK.out _ _ trivial (fun _ => ?_);clear hK K;(try simp only [pS]);have hb := below_alloc (Below.refl _ u1) (.cells #[.slice av ln cv] 32);have hz : (u1.alloc (.cells #[.slice av ln cv] 32)).heap[u1.heap.size]? = some (.cells #[.slice av ln cv] 32 (0, 0)) := hpn _ rfl;obtain ⟨bs, hbe⟩ : ∃ b, u1.heap.size = b := ⟨_, rfl⟩;(try simp only [hbe])
       rw [hbe] at hz;have HBL := Lib.hid hz;replace HVR := Lib.hid (HVR.out.alters (S := fun _ => False) (Alters.of_below hb) (fun _ h => h.elim));replace HBN := Lib.hid (below_step HBN.out hb);clear hb hz hbe;generalize u1.alloc (.cells #[.slice av ln cv] 32) = u2 at *;rotate_left 1
       refine step_call_g rfl 77 _ _ #[.slice (some ⟨gw, 1, none⟩) m (cw - 1)] rfl rfl (enters_of Tryz.func77 (by kernel_rfl) rfl) ((HLS.out u0 HBN.out _ (HWT.out (some ⟨gw, 1, none⟩) m (cw - 1) (by first | rfl | omega) (by first | omega | (have := HMZ.out (by simpa using e2); omega)) (by first | (right; rfl) | (left; exact HMZ.out (by simpa using e2))))).mono ?_)
       rintro e u1 ⟨vr, rfl, hvr, hb⟩;obtain ⟨av, cv, ev, _⟩ := OwnInts.ints hvr;obtain ⟨ln, hln⟩ : ∃ ln, (ws.tail.map numR).length = ln := ⟨_, rfl⟩;rw [hln] at ev;clear hln;subst ev;refine ⟨_, rfl, hK.out _ _ trivial (fun _ => ?_)⟩;clear hK K;(try simp only [pS]);have HVR := Lib.hid (OwnInts.mono hvr (Nat.le_trans (Nat.le_trans hh HB2.out.size) HBN.out.size));replace HBN := Lib.hid (below_step HBN.out hb);clear hb hvr;refine wpAnyH_ready (rs := [2, 6]) (by kernel_rfl) (by simp) ?_;refine (AC (fun K hK => ?_) (AC (fun K hK => ?_) AllReadyH.nil));have q := bx_cell ((HBN.out.block _ (bx_lt HX2.out)).trans HX2.out) 1 rfl;go_simp;refine hK.out _ _ trivial (fun _ => ?_);clear hK K;(try simp only [pS]);clear q;refine wpAnyH_ready (rs := [6]) (by kernel_rfl) (by simp) ?_;refine (AC (fun K hK => ?_) AllReadyH.nil);go_simp;refine hK.out _ _ trivial (fun _ => ?_);clear hK K
       (try simp only [pS]);have hb := below_alloc (Below.refl _ u1) (.cells #[.slice av ln cv] 32);have hz : (u1.alloc (.cells #[.slice av ln cv] 32)).heap[u1.heap.size]? = some (.cells #[.slice av ln cv] 32 (0, 0)) := hpn _ rfl;obtain ⟨bs, hbe⟩ : ∃ b, u1.heap.size = b := ⟨_, rfl⟩;(try simp only [hbe]);rw [hbe] at hz;have HBL := Lib.hid hz;replace HVR := Lib.hid (HVR.out.alters (S := fun _ => False) (Alters.of_below hb) (fun _ h => h.elim));replace HBN := Lib.hid (below_step HBN.out hb);clear hb hz hbe;generalize u1.alloc (.cells #[.slice av ln cv] 32) = u2 at *;rotate_left 1;go_simp;refine hK.out _ _ trivial (fun _ => ?_);clear hK K;(try simp only [pS]);have hb := below_alloc (Below.refl _ u1) (.cells #[.slice av ln cv] 32);have hz : (u1.alloc (.cells #[.slice av ln cv] 32)).heap[u1.heap.size]? = some (.cells #[.slice av ln cv] 32 (0, 0)) := hpn _ rfl
       obtain ⟨bs, hbe⟩ : ∃ b, u1.heap.size = b := ⟨_, rfl⟩;(try simp only [hbe]);rw [hbe] at hz;have HBL := Lib.hid hz;replace HVR := Lib.hid (HVR.out.alters (S := fun _ => False) (Alters.of_below hb) (fun _ h => h.elim));replace HBN := Lib.hid (below_step HBN.out hb);clear hb hz hbe;generalize u1.alloc (.cells #[.slice av ln cv] 32) = u2 at *;refine wpAnyH_ready (rs := [2]) (by kernel_rfl) (by simp) ?_;refine (AC (fun K hK => ?_) AllReadyH.nil);have q := bx_cell ((HBN.out.block _ (bx_lt HX2.out)).trans HX2.out) 1 rfl;go_simp;refine hK.out _ _ trivial (fun _ => ?_);clear hK K;(try simp only [pS]);clear q;rotate_left 1
       all_goals
         have HXU := Lib.hid ((HBN.out.block _ (bx_lt HX2.out)).trans HX2.out);have HZU := Lib.hid ((HBN.out.block _ (bx_lt HZ2.out)).trans HZ2.out);have HOU := Lib.hid (HO2.out.up HBN.out);have HBU := Lib.hid ((below_step HB2.out HBN.out).mono hh);obtain ⟨rows, hrs⟩ := HOU.out.next;refine wpAnyH_ready (rs := [7]) (by kernel_rfl) (by simp) ?_;refine AC (fun K hK => ?_) AllReadyH.nil
         refine step_pushC rfl 31 32 (.slice none 0 0) 1 24 Tryz.underlying31 info_rowC rfl (by decide) (by decide) (.tmp 33) (.tmp 37) rfl h vn g.b.next.length rows rfl hrs.1 (by have := HF.out.next; omega) (Nat.le_trans hh HBU.out.size) bs 1 [.slice av ln cv] rfl rfl HBL.out (by simp [Value.oneCell']) (fun g7 cap w7 hown hg hat => ?_)
         refine hK.out _ _ trivial (fun _ => ?_);clear hK K;(try simp only [pS]);have hx7 := grown_box hrs.1 hg HXU.out (by decide);have hz7 := grown_box hrs.1 hg HZU.out (by decide);have hO7 := next_more HOU.out HVR.out hrs hg hown;have hlow := HBU.out.trans (grown_low hrs.1 hg (Nat.le_trans hh HBU.out.size))
         have HE : Hid (GrowEnd h r w g' (w7.setCell ⟨r, 1, none⟩ (.slice (some ⟨g7, 0, none⟩) (g.b.next.length + 1) cap))) := Lib.hid (by
           rw [HGI.out]
           exact growEnd_set (by rw [← HRE.out]; exact hh) hh hlow hx7 hz7 hO7 (by unfold gcs; simp))
         have q := bx_cell hx7 1 rfl;have f := bx_frozen hx7 1;clear hlow hO7 hg hown hat hz7;refine TK 8 ?_;(try simp only [pS]);refine TK 9 ?_;(try simp only [pS]);refine wpAnyH_ready (rs := [10]) (by kernel_rfl) (by simp) ?_;refine AC (fun K hK => ?_) AllReadyH.nil;go_simp;refine hK.out _ _ trivial (fun _ => ?_);clear hK K;(try simp only [Act.put]);refine wpAnyH_done (by kernel_rfl) ?_ _;clear hx7 q f
         go_wp2_with fail
         go_meet
         exact HE.out
   · exact absurd ((show keyNo (headW ws) = some 2 by rw [HHD.out]; exact hk).symm.trans HKEY.out) (by decide)
   · exact absurd ((show keyNo (headW ws) = some 3 by rw [HHD.out]; exact hk).symm.trans HKEY.out) (by decide)
   · exact absurd ((show keyNo (headW ws) = some 4 by rw [HHD.out]; exact hk).symm.trans HKEY.out) (by decide)
   · exact absurd ((show keyNo (headW ws) = some 5 by rw [HHD.out]; exact hk).symm.trans HKEY.out) (by decide)
   · exact absurd ((show keyNo (headW ws) = some 6 by rw [HHD.out]; exact hk).symm.trans HKEY.out) (by decide)
   · exact absurd ((show keyNo (headW ws) = some 7 by rw [HHD.out]; exact hk).symm.trans HKEY.out) (by decide)
   · exact absurd ((show keyNo (headW ws) = some 8 by rw [HHD.out]; exact hk).symm.trans HKEY.out) (by decide)
   · exact absurd ((show keyNo (headW ws) = some 9 by rw [HHD.out]; exact hk).symm.trans HKEY.out) (by decide)
   · exact absurd ((show keyNo (headW ws) = some 10 by rw [HHD.out]; exact hk).symm.trans HKEY.out) (by decide)
   · exact absurd ((show keyNo (headW ws) = some 11 by rw [HHD.out]; exact hk).symm.trans HKEY.out) (by decide)
 case rest =>
   obtain ⟨vn', vt', vk', vc', hx, hz, hO, hb⟩ := hcut
   have hone : (gcs g' vn' vt' vk' vc').all (·.oneCell') = true := by
     obtain ⟨y, hy, _⟩ := hO.game
     rw [hy]; simp [GameD.cells, Value.oneCell']
   have hsz : (gcs g' vn' vt' vk' vc').size = 9 := rfl
   have hal : Alters (fun b => b = r + 1) wc (wc.setRow (r + 1) (gcs g' vn' vt' vk' vc')) := ⟨rfl, rfl, rfl, by rw [size_setRow]; exact Nat.le_refl _, fun k _ hs => setRow_other wc (r + 1) k _ hs⟩
   have HQ : Hid ((wc.setRow (r + 1) (gcs g' vn' vt' vk' vc')).heap[r + 1]? = some (.cells (gcs g' vn' vt' vk' vc') 38 (0, 0))) := Lib.hid (setRow_heap wc (r + 1) _ _ _ _ hz)
   have HFIN : Hid (∃ a1 a2 a3 a4, Ending.returned (.agg (gcs g' vn' vt' vk' vc')) = .returned (.agg (gcs g' a1 a2 a3 a4)) ∧ OwnD h (wc.setRow (r + 1) (gcs g' vn' vt' vk' vc')) a1 a2 a3 a4 g' ∧ Below h w (wc.setRow (r + 1) (gcs g' vn' vt' vk' vc'))) :=
     Lib.hid ⟨_, _, _, _, rfl, hO.alt hal (notTs_box hz), hb.trans (hal.below (Nat.le_trans hh hb.size) (fun k hk => by have hk : k = r + 1 := hk; have := HRE.out; omega))⟩
   have HX := Lib.hid hx;have HZ := Lib.hid hz;have HONE := Lib.hid hone;have HSZ := Lib.hid hsz;clear hx hz hO hb hone hsz hal;generalize gcs g' vn' vt' vk' vc' = CC at *
   have HIS : Hid ((Tryz.prog.info? 38).map (·.size) = some CC.size) := Lib.hid (by rw [HSZ.out]; exact info_gameC)
   have HZS : Hid (zeroC.size = CC.size) := Lib.hid (by rw [HSZ.out]; rfl)
   go_wp2_with (first | (refine wpList_load_row rfl 38 (.tmp 2) rfl r rfl 38 CC (0, 0) _ HX.out Tryz.underlying38 rfl HIS.out ?_) | (refine wpList_store_row rfl 38 (.tmp 4) (.tmp 164) rfl (r + 1) CC rfl rfl 38 zeroC HZ.out HIS.out HZS.out HONE.out ?_));(try simp only [Exit.inBlock, Exit.then]);refine bodyPost_ret_by (v := .agg CC) (results_cell_row rfl _ _ (r + 1) 38 _ (0, 0) _ rfl HQ.out Tryz.underlying38 rfl HIS.out) rfl ?_;exact HFIN.out
set_option maxRecDepth 100000 in
set_option maxHeartbeats 4000000 in
theorem grow_3 (h : Nat) (g : GameD) (vn vt vk vc : Value) (s : List UInt8) (w : World) (hh : h ≤ w.heap.size) (hs : s.length ≤ 100000) (hn : (cutS s 32).length ≤ 1900) (hf : Few 1900 g) (hkey : keyNo (headW (cutS s 32)) = some 3) (hO : OwnD h w vn vt vk vc g) :
   Calls Tryz.prog 39 #[.agg (gcs g vn vt vk vc), .string ⟨s.toArray⟩] w fun e w' => ∃ vn' vt' vk' vc', e = .returned (.agg (gcs (growS g s) vn' vt' vk' vc')) ∧ OwnD h w' vn' vt' vk' vc' (growS g s) ∧ Below h w w' := by
 have hbA : Below w.heap.size w ((w.alloc (.cells #[.int .i64 g.b.cells, vn, vt, vk, .int .i64 g.rights, .bool g.must, vc, .int .i64 g.blocked, .int .i64 g.endless] 38)).alloc (.cells zeroC 38)) := below_alloc (below_alloc (Below.refl _ w) _) _
 have hx1 : ((w.alloc (.cells #[.int .i64 g.b.cells, vn, vt, vk, .int .i64 g.rights, .bool g.must, vc, .int .i64 g.blocked, .int .i64 g.endless] 38)).alloc (.cells zeroC 38)).heap[w.heap.size]? = some (.cells #[.int .i64 g.b.cells, vn, vt, vk, .int .i64 g.rights, .bool g.must, vc, .int .i64 g.blocked, .int .i64 g.endless] 38 (0, 0)) := hpo (hpn _ rfl)
 have hx2 : ((w.alloc (.cells #[.int .i64 g.b.cells, vn, vt, vk, .int .i64 g.rights, .bool g.must, vc, .int .i64 g.blocked, .int .i64 g.endless] 38)).alloc (.cells zeroC 38)).heap[w.heap.size + 1]? = some (.cells zeroC 38 (0, 0)) := hpn _ (by simp)
 have hc1 := cut_one s 32
 have hce := cut_each s 32
 have HGS : Hid (growS g s = match keyNo (headW (cutS s 32)) with | some i => growN g i s (cutS s 32) | none => g) := Lib.hid rfl
 have HCUT : Hid (Calls Tryz.prog 28 #[.string ⟨s.toArray⟩, .int .u8 32] ((w.alloc (.cells #[.int .i64 g.b.cells, vn, vt, vk, .int .i64 g.rights, .bool g.must, vc, .int .i64 g.blocked, .int .i64 g.endless] 38)).alloc (.cells zeroC 38)) fun e w' => ∃ v, e = .returned v ∧ OwnStrs ((w.alloc (.cells #[.int .i64 g.b.cells, vn, vt, vk, .int .i64 g.rights, .bool g.must, vc, .int .i64 g.blocked, .int .i64 g.endless] 38)).alloc (.cells zeroC 38)).heap.size w' v (cutS s 32) ∧ Below ((w.alloc (.cells #[.int .i64 g.b.cells, vn, vt, vk, .int .i64 g.rights, .bool g.must, vc, .int .i64 g.blocked, .int .i64 g.endless] 38)).alloc (.cells zeroC 38)).heap.size ((w.alloc (.cells #[.int .i64 g.b.cells, vn, vt, vk, .int .i64 g.rights, .bool g.must, vc, .int .i64 g.blocked, .int .i64 g.endless] 38)).alloc (.cells zeroC 38)) w') := Lib.hid (rcut_any s 32 _ (by omega) hn)
 have hO1 := hO.up hbA
 unfold gcs
 generalize hG' : growS g s = g' at *
 clear hG'
 generalize hWS : cutS s 32 = ws at *
 clear hWS
 have HWL : Hid (∀ x ∈ ws, x.length ≤ 1000000) := Lib.hid (fun x hx => by have := hce x hx; omega)
 have HF := Lib.hid hf
 clear hO hf hce
 have HKEY := Lib.hid hkey
 clear hkey
 go_enter Tryz.func39, Tryz.ntmps39
 go_upto_region 1 with (fail)
 have hzw : (w.alloc (.cells #[.int .i64 g.b.cells, vn, vt, vk, .int .i64 g.rights, .bool g.must, vc, .int .i64 g.blocked, .int .i64 g.endless] 38)).alloc (.cells #[.int .i64 0, .slice none 0 0, .slice none 0 0, .slice none 0 0, .int .i64 0, .bool false, .slice none 0 0, .int .i64 0, .int .i64 0] 38) = (w.alloc (.cells #[.int .i64 g.b.cells, vn, vt, vk, .int .i64 g.rights, .bool g.must, vc, .int .i64 g.blocked, .int .i64 g.endless] 38)).alloc (.cells zeroC 38) := rfl
 (try rw [hzw])
 clear hzw
 obtain ⟨r, hr⟩ : ∃ r, w.heap.size = r := ⟨_, rfl⟩
 rw [hr] at hx1 hx2
 (try simp only [hr])
 have HRE := Lib.hid hr
 clear hr
 generalize (w.alloc (.cells #[.int .i64 g.b.cells, vn, vt, vk, .int .i64 g.rights, .bool g.must, vc, .int .i64 g.blocked, .int .i64 g.endless] 38)).alloc (.cells zeroC 38) = w1 at *
 go_wp2_with fail
 refine HCUT.out.mono ?_
 rintro e w2 ⟨v, rfl, hv, hb2⟩
 have HX2 := Lib.hid ((hb2.block _ (bx_lt hx1)).trans hx1)
 have HZ2 := Lib.hid ((hb2.block _ (bx_lt hx2)).trans hx2)
 have HO2 := Lib.hid (hO1.up hb2)
 have HB2 := Lib.hid (below_step hbA hb2)
 have HW2 := Lib.hid (hv.words hc1)
 obtain ⟨gw, cw, rfl, _, _, hcw, hcell⟩ := hv.cells hc1
 clear hx1 hx2 hb2 hbA hO1 HCUT hv
 obtain ⟨m, hm⟩ : ∃ m, ws.length = m + 1 := ⟨ws.length - 1, by omega⟩
 have z0 := hcell 0 (by omega)
 have zm := hcell m (by omega)
 rw [Nat.zero_add] at z0 zm
 have HHD : Hid (headW ws = ws[0]'(by omega)) := Lib.hid (by
   cases ws with
   | nil => simp at hm
   | cons a b => rfl)
 have HLA : Hid (lastW ws = ws[m]'(by omega)) := Lib.hid (last_at ws m hm)
 obtain ⟨x, hx⟩ : ∃ x, ws[0]'(by omega) = x := ⟨_, rfl⟩
 obtain ⟨la, hla⟩ : ∃ x, ws[m]'(by omega) = x := ⟨_, rfl⟩
 rw [hx] at z0 HHD
 rw [hla] at zm HLA
 have HML := Lib.hid hm
 rw [hm] at hn hcw ⊢
 have HLL : Hid (la.length ≤ 1000000) := Lib.hid (by rw [← hla]; exact HWL.out _ (List.getElem_mem _))
 clear hx hla hcell hc1 hm
 have b1 : (0 : Int) ≤ (m : Int) := by omega
 have y1 : IntKind.i64.wrap (((m + 1 : Nat) : Int) - 1) = (m : Int) := by
   have e : ((m + 1 : Nat) : Int) - 1 = (m : Int) := by omega
   rw [e]; exact IntWalk.i64_in _ (by omega)
 have y2 : IntKind.i64.wrap ((m : Int) + 1 - 1) = (m : Int) := by
   have e : (m : Int) + 1 - 1 = (m : Int) := by omega
   rw [e]; exact IntWalk.i64_in _ (by omega)
 go_upto_block 0 with (fail)
 clear z0 zm y1 y2
 have c1 : (1 : Int) ≤ (m : Int) + 1 := by omega
 have c2 : (m : Int) + 1 ≤ (cw : Int) := by omega
 go_cut [7, 8, 9, 10] from 22 to 163 (fun _s7 _s8 _s9 _s10 wx => GrowEnd h r w g' wx)
 case first =>
   by_cases hkn : keyNo x = none
   case pos =>
     exact absurd ((show keyNo (headW ws) = none by rw [HHD.out]; exact hkn).symm.trans HKEY.out) (by simp)
   obtain ⟨i, hi, hk, hxe⟩ : ∃ i, ∃ h : i < keysK.length, keyNo x = some i ∧ x = keysK[i] := by
     rcases key_cases x with h | ⟨h, _⟩
     · exact h
     · exact absurd h hkn
   have HGI : Hid (g' = growN g i s ws) := Lib.hid (by rw [HGS.out, HHD.out, hk]);clear hkn;have hi2 : i < 12 := hi
   rcases (show i = 0 ∨ i = 1 ∨ i = 2 ∨ i = 3 ∨ i = 4 ∨ i = 5 ∨ i = 6 ∨ i = 7 ∨ i = 8 ∨ i = 9 ∨ i = 10 ∨ i = 11 by omega) with rfl | rfl | rfl | rfl | rfl | rfl | rfl | rfl | rfl | rfl | rfl | rfl
   · exact absurd ((show keyNo (headW ws) = some 0 by rw [HHD.out]; exact hk).symm.trans HKEY.out) (by decide)
   · exact absurd ((show keyNo (headW ws) = some 1 by rw [HHD.out]; exact hk).symm.trans HKEY.out) (by decide)
   · exact absurd ((show keyNo (headW ws) = some 2 by rw [HHD.out]; exact hk).symm.trans HKEY.out) (by decide)
   · obtain rfl : x = [107, 105, 110, 100] := hxe
     clear hk hi hi2 HKEY
     have HS := Lib.hid (fun W (hW : Below w2.heap.size w2 W) => rsecond_any _ ws W (HW2.out.up hW) (by have := HML.out; omega))
     rw [HML.out] at HS
     have HSL : Hid ((secW ws).length ≤ 1000000) := Lib.hid (by
       unfold secW
       cases he : ws[1]? with
       | none => simp
       | some y => exact HWL.out y (List.mem_of_getElem? he))
     obtain ⟨sw, hsw⟩ : ∃ y, secW ws = y := ⟨_, rfl⟩;have HSW := Lib.hid hsw;rw [hsw] at HS HSL;clear hsw;obtain ⟨kp, hkp0⟩ : ∃ b, decide (2 < ws.length) = b := ⟨_, rfl⟩;have HKP := Lib.hid hkp0
     have t2 : decide ((2 : Int) < (m : Int) + 1) = kp := by
       rw [← hkp0, HML.out]
       have : ((2 : Int) < (m : Int) + 1) ↔ (2 < m + 1) := by omega
       simp only [this]
     clear hkp0
     replace HGI : Hid (g' = { g with kinds := g.kinds ++ [⟨sw, [], kp⟩] }) := Lib.hid (by rw [HGI.out]; show ({ g with kinds := g.kinds ++ [(⟨secW ws, [], decide (2 < ws.length)⟩ : KindD)] } : GameD) = _; rw [HSW.out, HKP.out])
     go_upto_region 11 with (fail);refine wp_region_held_drew (S := fun _ => True) (by kernel_rfl) trivial (fun hHeld => ?_);have HBN := Lib.hid (Below.refl w2.heap.size w2).drew;generalize w2.drew = u0 at *;clear hHeld;have hTr : True := trivial;refine TK 0 ?_;(try simp only [pS]);refine TK 2 ?_;(try simp only [pS]);refine TK 4 ?_;(try simp only [pS]);refine TK 5 ?_;(try simp only [pS]);refine TK 6 ?_;(try simp only [pS]);refine wpAnyH_ready (rs := [1, 3]) (by kernel_rfl) (by simp) ?_;refine (AC (fun K hK => ?_) (AC (fun K hK => ?_) AllReadyH.nil));have q := bx_cell ((HBN.out.block _ (bx_lt HX2.out)).trans HX2.out) 3 rfl;go_simp;refine hK.out _ _ trivial (fun _ => ?_);clear hK K;(try simp only [pS]);clear q;refine wpAnyH_ready (rs := [3]) (by kernel_rfl) (by simp) ?_;refine (AC (fun K hK => ?_) AllReadyH.nil)
     refine step_call_g rfl 76 _ _ #[.slice (some ⟨gw, 0, none⟩) (m + 1) cw] rfl rfl (enters_of Tryz.func76 (by kernel_rfl) rfl) ((HS.out u0 HBN.out).mono ?_);rintro e w9 ⟨rfl, e9⟩;subst w9;refine ⟨_, rfl, hK.out _ _ trivial (fun _ => ?_)⟩;clear hK K;(try simp only [pS]);refine TK 7 ?_;(try simp only [pS]);refine wpAnyH_ready (rs := [8]) (by kernel_rfl) (by simp) ?_;refine (AC (fun K hK => ?_) AllReadyH.nil);go_simp;refine hK.out _ _ trivial (fun _ => ?_);clear hK K;(try simp only [pS]);have hb := below_alloc (Below.refl _ u0) (.cells #[.string ⟨sw.toArray⟩, .slice none 0 0, .bool kp] 63);have hz : (u0.alloc (.cells #[.string ⟨sw.toArray⟩, .slice none 0 0, .bool kp] 63)).heap[u0.heap.size]? = some (.cells #[.string ⟨sw.toArray⟩, .slice none 0 0, .bool kp] 63 (0, 0)) := hpn _ rfl;obtain ⟨bs, hbe⟩ : ∃ b, u0.heap.size = b := ⟨_, rfl⟩;(try simp only [hbe]);rw [hbe] at hz
     have HBL := Lib.hid hz;replace HBN := Lib.hid (below_step HBN.out hb);clear hb hz hbe;generalize u0.alloc (.cells #[.string ⟨sw.toArray⟩, .slice none 0 0, .bool kp] 63) = u1 at *;rotate_left 1;refine step_call_g rfl 76 _ _ #[.slice (some ⟨gw, 0, none⟩) (m + 1) cw] rfl rfl (enters_of Tryz.func76 (by kernel_rfl) rfl) ((HS.out u0 HBN.out).mono ?_);rintro e w9 ⟨rfl, e9⟩;subst w9;refine ⟨_, rfl, hK.out _ _ trivial (fun _ => ?_)⟩;clear hK K;(try simp only [pS]);refine TK 7 ?_;(try simp only [pS]);refine wpAnyH_ready (rs := [1, 8]) (by kernel_rfl) (by simp) ?_;refine (AC (fun K hK => ?_) (AC (fun K hK => ?_) AllReadyH.nil));have q := bx_cell ((HBN.out.block _ (bx_lt HX2.out)).trans HX2.out) 3 rfl;go_simp;refine hK.out _ _ trivial (fun _ => ?_);clear hK K;(try simp only [pS]);clear q;refine wpAnyH_ready (rs := [8]) (by kernel_rfl) (by simp) ?_;refine (AC (fun K hK => ?_) AllReadyH.nil)
     go_simp;refine hK.out _ _ trivial (fun _ => ?_);clear hK K;(try simp only [pS]);have hb := below_alloc (Below.refl _ u0) (.cells #[.string ⟨sw.toArray⟩, .slice none 0 0, .bool kp] 63);have hz : (u0.alloc (.cells #[.string ⟨sw.toArray⟩, .slice none 0 0, .bool kp] 63)).heap[u0.heap.size]? = some (.cells #[.string ⟨sw.toArray⟩, .slice none 0 0, .bool kp] 63 (0, 0)) := hpn _ rfl;obtain ⟨bs, hbe⟩ : ∃ b, u0.heap.size = b := ⟨_, rfl⟩;(try simp only [hbe]);rw [hbe] at hz;have HBL := Lib.hid hz;replace HBN := Lib.hid (below_step HBN.out hb);clear hb hz hbe;generalize u0.alloc (.cells #[.string ⟨sw.toArray⟩, .slice none 0 0, .bool kp] 63) = u1 at *;rotate_left 1;go_simp;refine hK.out _ _ trivial (fun _ => ?_);clear hK K;(try simp only [pS]);have hb := below_alloc (Below.refl _ u0) (.cells #[.string ⟨sw.toArray⟩, .slice none 0 0, .bool kp] 63)
     have hz : (u0.alloc (.cells #[.string ⟨sw.toArray⟩, .slice none 0 0, .bool kp] 63)).heap[u0.heap.size]? = some (.cells #[.string ⟨sw.toArray⟩, .slice none 0 0, .bool kp] 63 (0, 0)) := hpn _ rfl;obtain ⟨bs, hbe⟩ : ∃ b, u0.heap.size = b := ⟨_, rfl⟩;(try simp only [hbe]);rw [hbe] at hz;have HBL := Lib.hid hz;replace HBN := Lib.hid (below_step HBN.out hb);clear hb hz hbe;generalize u0.alloc (.cells #[.string ⟨sw.toArray⟩, .slice none 0 0, .bool kp] 63) = u1 at *;refine wpAnyH_ready (rs := [1]) (by kernel_rfl) (by simp) ?_;refine (AC (fun K hK => ?_) AllReadyH.nil);have q := bx_cell ((HBN.out.block _ (bx_lt HX2.out)).trans HX2.out) 3 rfl;go_simp;refine hK.out _ _ trivial (fun _ => ?_);clear hK K;(try simp only [pS]);clear q;rotate_left 1
     all_goals
       have HXU := Lib.hid ((HBN.out.block _ (bx_lt HX2.out)).trans HX2.out);have HZU := Lib.hid ((HBN.out.block _ (bx_lt HZ2.out)).trans HZ2.out);have HOU := Lib.hid (HO2.out.up HBN.out);have HBU := Lib.hid ((below_step HB2.out HBN.out).mono hh);obtain ⟨pvs, hkl, hko, hkp, hka⟩ := HOU.out.kinds;refine wpAnyH_ready (rs := [9]) (by kernel_rfl) (by simp) ?_;refine AC (fun K hK => ?_) AllReadyH.nil
       refine step_pushC rfl 35 63 _ 3 48 Tryz.underlying35 info_kindC rfl (by decide) (by decide) (.tmp 51) (.tmp 58) rfl h vk g.kinds.length (flatK g.kinds pvs) rfl hko (by have := HF.out.kinds; omega) (Nat.le_trans hh HBU.out.size) bs 1 [.string ⟨sw.toArray⟩, .slice none 0 0, .bool kp] rfl rfl HBL.out (by simp [Value.oneCell']) (fun g7 cap w7 hown hg hat => ?_)
       refine hK.out _ _ trivial (fun _ => ?_);clear hK K;(try simp only [pS]);have hx7 := grown_box hko hg HXU.out (by decide);have hz7 := grown_box hko hg HZU.out (by decide);have hO7 := kind_more HOU.out hkl hko hkp hka hg hown;have hlow := HBU.out.trans (grown_low hko hg (Nat.le_trans hh HBU.out.size))
       have HE : Hid (GrowEnd h r w g' (w7.setCell ⟨r, 3, none⟩ (.slice (some ⟨g7, 0, none⟩) (g.kinds.length + 1) cap))) := Lib.hid (by
         rw [HGI.out]
         exact growEnd_set (by rw [← HRE.out]; exact hh) hh hlow hx7 hz7 hO7 (by unfold gcs; simp))
       have q := bx_cell hx7 3 rfl;have f := bx_frozen hx7 3;clear hlow hO7 hg hown hat hz7;refine TK 10 ?_;(try simp only [pS]);refine wpAnyH_ready (rs := [11]) (by kernel_rfl) (by simp) ?_;refine AC (fun K hK => ?_) AllReadyH.nil;go_simp;refine hK.out _ _ trivial (fun _ => ?_);clear hK K;(try simp only [Act.put]);refine wpAnyH_done (by kernel_rfl) ?_ _;clear hx7 q f
       go_wp2_with fail
       go_meet
       exact HE.out
   · exact absurd ((show keyNo (headW ws) = some 4 by rw [HHD.out]; exact hk).symm.trans HKEY.out) (by decide)
   · exact absurd ((show keyNo (headW ws) = some 5 by rw [HHD.out]; exact hk).symm.trans HKEY.out) (by decide)
   · exact absurd ((show keyNo (headW ws) = some 6 by rw [HHD.out]; exact hk).symm.trans HKEY.out) (by decide)
   · exact absurd ((show keyNo (headW ws) = some 7 by rw [HHD.out]; exact hk).symm.trans HKEY.out) (by decide)
   · exact absurd ((show keyNo (headW ws) = some 8 by rw [HHD.out]; exact hk).symm.trans HKEY.out) (by decide)
   · exact absurd ((show keyNo (headW ws) = some 9 by rw [HHD.out]; exact hk).symm.trans HKEY.out) (by decide)
   · exact absurd ((show keyNo (headW ws) = some 10 by rw [HHD.out]; exact hk).symm.trans HKEY.out) (by decide)
   · exact absurd ((show keyNo (headW ws) = some 11 by rw [HHD.out]; exact hk).symm.trans HKEY.out) (by decide)
 case rest =>
   obtain ⟨vn', vt', vk', vc', hx, hz, hO, hb⟩ := hcut
   have hone : (gcs g' vn' vt' vk' vc').all (·.oneCell') = true := by
     obtain ⟨y, hy, _⟩ := hO.game
     rw [hy]; simp [GameD.cells, Value.oneCell']
   have hsz : (gcs g' vn' vt' vk' vc').size = 9 := rfl
   have hal : Alters (fun b => b = r + 1) wc (wc.setRow (r + 1) (gcs g' vn' vt' vk' vc')) := ⟨rfl, rfl, rfl, by rw [size_setRow]; exact Nat.le_refl _, fun k _ hs => setRow_other wc (r + 1) k _ hs⟩
   have HQ : Hid ((wc.setRow (r + 1) (gcs g' vn' vt' vk' vc')).heap[r + 1]? = some (.cells (gcs g' vn' vt' vk' vc') 38 (0, 0))) := Lib.hid (setRow_heap wc (r + 1) _ _ _ _ hz)
   have HFIN : Hid (∃ a1 a2 a3 a4, Ending.returned (.agg (gcs g' vn' vt' vk' vc')) = .returned (.agg (gcs g' a1 a2 a3 a4)) ∧ OwnD h (wc.setRow (r + 1) (gcs g' vn' vt' vk' vc')) a1 a2 a3 a4 g' ∧ Below h w (wc.setRow (r + 1) (gcs g' vn' vt' vk' vc'))) :=
     Lib.hid ⟨_, _, _, _, rfl, hO.alt hal (notTs_box hz), hb.trans (hal.below (Nat.le_trans hh hb.size) (fun k hk => by have hk : k = r + 1 := hk; have := HRE.out; omega))⟩
   have HX := Lib.hid hx;have HZ := Lib.hid hz;have HONE := Lib.hid hone;have HSZ := Lib.hid hsz;clear hx hz hO hb hone hsz hal;generalize gcs g' vn' vt' vk' vc' = CC at *
   have HIS : Hid ((Tryz.prog.info? 38).map (·.size) = some CC.size) := Lib.hid (by rw [HSZ.out]; exact info_gameC)
   have HZS : Hid (zeroC.size = CC.size) := Lib.hid (by rw [HSZ.out]; rfl)
   go_wp2_with (first | (refine wpList_load_row rfl 38 (.tmp 2) rfl r rfl 38 CC (0, 0) _ HX.out Tryz.underlying38 rfl HIS.out ?_) | (refine wpList_store_row rfl 38 (.tmp 4) (.tmp 164) rfl (r + 1) CC rfl rfl 38 zeroC HZ.out HIS.out HZS.out HONE.out ?_));(try simp only [Exit.inBlock, Exit.then]);refine bodyPost_ret_by (v := .agg CC) (results_cell_row rfl _ _ (r + 1) 38 _ (0, 0) _ rfl HQ.out Tryz.underlying38 rfl HIS.out) rfl ?_;exact HFIN.out
end Go.Proofs.YtbmcngoeinginaaGreatDoor
