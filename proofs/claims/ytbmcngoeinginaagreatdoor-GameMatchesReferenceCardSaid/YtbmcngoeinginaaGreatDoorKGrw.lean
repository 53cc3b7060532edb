/-
 Of the reference: grow.
-/
import Derived.Test.YtbmcngoeinginaaGreatDoorKGrwA
import Derived.Test.YtbmcngoeinginaaGreatDoorKGrwB
import Derived.Test.YtbmcngoeinginaaGreatDoorKGrwC
import Derived.Test.YtbmcngoeinginaaGreatDoorKGrwD
import Derived.Deep.DeepCutAuto
import Derived.Deep.CutBlock
namespace Go.Proofs.YtbmcngoeinginaaGreatDoor
open Go Go.RowKit Go.Lib
attribute [local irreducible] Go.wpQuiet
set_option maxRecDepth 100000 in
set_option maxHeartbeats 4000000 in
theorem grow_0 (h : Nat) (g : GameD) (vn vt vk vc : Value) (s : List UInt8) (w : World) (hh : h ≤ w.heap.size) (hs : s.length ≤ 100000) (hn : (cutS s 32).length ≤ 1900) (hf : Few 1900 g) (hkey : ∀ i, keyNo (headW (cutS s 32)) = some i → i ≠ 1 ∧ i ≠ 3 ∧ i ≠ 4 ∧ i ≠ 7 ∧ i ≠ 8 ∧ i ≠ 9) (hO : OwnD h w vn vt vk vc g) :
   Calls Tryz.prog 39 #[.agg (gcs g vn vt vk vc), .string ⟨s.toArray⟩] w fun e w' => ∃ vn' vt' vk' vc', e = .returned (.agg (gcs (growS g s) vn' vt' vk' vc')) ∧ OwnD h w' vn' vt' vk' vc' (growS g s) ∧ Below h w w' := by
 have hbA : Below w.heap.size w ((w.alloc (.cells #[.int .i64 g.b.cells, vn, vt, vk, .int .i64 g.rights, .bool g.must, vc, .int .i64 g.blocked, .int .i64 g.endless] 38)).alloc (.cells zeroC 38)) := below_alloc (below_alloc (Below.refl _ w) _) _
 have hx1 : ((w.alloc (.cells #[.int .i64 g.b.cells, vn, vt, vk, .int .i64 g.rights, .bool g.must, vc, .int .i64 g.blocked, .int .i64 g.endless] 38)).alloc (.cells zeroC 38)).heap[w.heap.size]? = some (.cells #[.int .i64 g.b.cells, vn, vt, vk, .int .i64 g.rights, .bool g.must, vc, .int .i64 g.blocked, .int .i64 g.endless] 38 (0, 0)) := hpo (hpn _ rfl)
 have hx2 : ((w.alloc (.cells #[.int .i64 g.b.cells, vn, vt, vk, .int .i64 g.rights, .bool g.must, vc, .int .i64 g.blocked, .int .i64 g.endless] 38)).alloc (.cells zeroC 38)).heap[w.heap.size + 1]? = some (.cells zeroC 38 (0, 0)) := hpn _ (by simp)
 have hc1 := cut_one s 32
 have hce := cut_each s 32
 have HGS : Hid (growS g s = match keyNo (headW (cutS s 32)) with | some i => growN g i s (cutS s 32) | none => g) := Lib.hid rfl
 have HCUT : Hid (Calls Tryz.prog 28 #[.string ⟨s.toArray⟩, .int .u8 32] ((w.alloc (.cells #[.int .i64 g.b.cells, vn, vt, vk, .int .i64 g.rights, .bool g.must, vc, .int .i64 g.blocked, .int .i64 g.endless] 38)).alloc (.cells zeroC 38)) fun e w' => ∃ v, e = .returned v ∧ OwnStrs ((w.alloc (.cells #[.int .i64 g.b.cells, vn, vt, vk, .int .i64 g.rights, .bool g.must, vc, .int .i64 g.blocked, .int .i64 g.endless] 38)).alloc (.cells zeroC 38)).heap.size w' v (cutS s 32) ∧ Below ((w.alloc (.cells #[.int .i64 g.b.cells, vn, vt, vk, .int .i64 g.rights, .bool g.must, vc, .int .i64 g.blocked, .int .i64 g.endless] 38)).alloc (.cells zeroC 38)).heap.size ((w.alloc (.cells #[.int .i64 g.b.cells, vn, vt, vk, .int .i64 g.rights, .bool g.must, vc, .int .i64 g.blocked, .int .i64 g.endless] 38)).alloc (.cells zeroC 38)) w') := Lib.hid (rcut_any s 32 _ (by omega) hn)
 have hO1 := hO.up hbA
 unfold gcs
 generalize hG' : growS g s = g' at *
 clear hG'
 generalize hWS : cutS s 32 = ws at *
 clear hWS
 have HWL : Hid (∀ x ∈ ws, x.length ≤ 1000000) := Lib.hid (fun x hx => by have := hce x hx; omega)
 have HF := Lib.hid hf
 clear hO hf hce
 have HKEY := Lib.hid hkey
 clear hkey
 go_enter Tryz.func39, Tryz.ntmps39
 go_upto_region 1 with (fail)
 have hzw : (w.alloc (.cells #[.int .i64 g.b.cells, vn, vt, vk, .int .i64 g.rights, .bool g.must, vc, .int .i64 g.blocked, .int .i64 g.endless] 38)).alloc (.cells #[.int .i64 0, .slice none 0 0, .slice none 0 0, .slice none 0 0, .int .i64 0, .bool false, .slice none 0 0, .int .i64 0, .int .i64 0] 38) = (w.alloc (.cells #[.int .i64 g.b.cells, vn, vt, vk, .int .i64 g.rights, .bool g.must, vc, .int .i64 g.blocked, .int .i64 g.endless] 38)).alloc (.cells zeroC 38) := rfl
 (try rw [hzw])
 clear hzw
 obtain ⟨r, hr⟩ : ∃ r, w.heap.size = r := ⟨_, rfl⟩
 rw [hr] at hx1 hx2
 (try simp only [hr])
 have HRE := Lib.hid hr
 clear hr
 generalize (w.alloc (.cells #[.int .i64 g.b.cells, vn, vt, vk, .int .i64 g.rights, .bool g.must, vc, .int .i64 g.blocked, .int .i64 g.endless] 38)).alloc (.cells zeroC 38) = w1 at *
 go_wp2_with fail
 refine HCUT.out.mono ?_
 rintro e w2 ⟨v, rfl, hv, hb2⟩
 have HX2 := Lib.hid ((hb2.block _ (bx_lt hx1)).trans hx1)
 have HZ2 := Lib.hid ((hb2.block _ (bx_lt hx2)).trans hx2)
 have HO2 := Lib.hid (hO1.up hb2)
 have HB2 := Lib.hid (below_step hbA hb2)
 have HW2 := Lib.hid (hv.words hc1)
 obtain ⟨gw, cw, rfl, _, _, hcw, hcell⟩ := hv.cells hc1
 clear hx1 hx2 hb2 hbA hO1 HCUT hv
 obtain ⟨m, hm⟩ : ∃ m, ws.length = m + 1 := ⟨ws.length - 1, by omega⟩
 have z0 := hcell 0 (by omega)
 have zm := hcell m (by omega)
 rw [Nat.zero_add] at z0 zm
 have HHD : Hid (headW ws = ws[0]'(by omega)) := Lib.hid (by
   cases ws with
   | nil => simp at hm
   | cons a b => rfl)
 have HLA : Hid (lastW ws = ws[m]'(by omega)) := Lib.hid (last_at ws m hm)
 obtain ⟨x, hx⟩ : ∃ x, ws[0]'(by omega) = x := ⟨_, rfl⟩
 obtain ⟨la, hla⟩ : ∃ x, ws[m]'(by omega) = x := ⟨_, rfl⟩
 rw [hx] at z0 HHD
 rw [hla] at zm HLA
 have HML := Lib.hid hm
 rw [hm] at hn hcw ⊢
 have HLL : Hid (la.length ≤ 1000000) := Lib.hid (by rw [← hla]; exact HWL.out _ (List.getElem_mem _))
 clear hx hla hcell hc1 hm
 have b1 : (0 : Int) ≤ (m : Int) := by omega
 have y1 : IntKind.i64.wrap (((m + 1 : Nat) : Int) - 1) = (m : Int) := by
   have e : ((m + 1 : Nat) : Int) - 1 = (m : Int) := by omega
   rw [e]; exact IntWalk.i64_in _ (by omega)
 have y2 : IntKind.i64.wrap ((m : Int) + 1 - 1) = (m : Int) := by
   have e : (m : Int) + 1 - 1 = (m : Int) := by omega
   rw [e]; exact IntWalk.i64_in _ (by omega)
 go_upto_block 0 with (fail)
 clear z0 zm y1 y2
 have c1 : (1 : Int) ≤ (m : Int) + 1 := by omega
 have c2 : (m : Int) + 1 ≤ (cw : Int) := by omega
 go_cut [7, 8, 9, 10] from 22 to 163 (fun _s7 _s8 _s9 _s10 wx => GrowEnd h r w g' wx)
 case first =>
   by_cases hkn : keyNo x = none
   case pos =>
     have hno : ∀ k ∈ keysK, (x == k) = false := by
       rcases key_cases x with ⟨i, hi, hk, _⟩ | ⟨_, h⟩
       · rw [hk] at hkn; cases hkn
       · exact h
     have hk := hkn;clear hkn;have HGI : Hid (g' = g) := Lib.hid (by rw [HGS.out, HHD.out, hk]);have k0 : (x == [98, 111, 97, 114, 100]) = false := hno _ (by decide);have k1 : (x == [100, 105, 114]) = false := hno _ (by decide);have k2 : (x == [116, 117, 114, 110]) = false := hno _ (by decide);have k3 : (x == [107, 105, 110, 100]) = false := hno _ (by decide);have k4 : (x == [112, 114, 111, 103]) = false := hno _ (by decide);have k5 : (x == [114, 105, 103, 104, 116, 115]) = false := hno _ (by decide);have k6 : (x == [109, 117, 115, 116]) = false := hno _ (by decide);have k7 : (x == [108, 97, 99, 107, 115]) = false := hno _ (by decide);have k8 : (x == [104, 111, 108, 100, 115]) = false := hno _ (by decide);have k9 : (x == [102, 101, 119]) = false := hno _ (by decide);have k10 : (x == [98, 108, 111, 99, 107, 101, 100]) = false := hno _ (by decide)
     have k11 : (x == [101, 110, 100, 108, 101, 115, 115]) = false := hno _ (by decide);clear hno hk
     go_wp2_with fail
     go_meet
     exact ⟨vn, vt, vk, vc, by rw [HGI.out]; exact HX2.out, HZ2.out, by rw [HGI.out]; exact HO2.out, HB2.out.mono hh⟩
   obtain ⟨i, hi, hk, hxe⟩ : ∃ i, ∃ h : i < keysK.length, keyNo x = some i ∧ x = keysK[i] := by
     rcases key_cases x with h | ⟨h, _⟩
     · exact h
     · exact absurd h hkn
   have HGI : Hid (g' = growN g i s ws) := Lib.hid (by rw [HGS.out, HHD.out, hk]);clear hkn;have hi2 : i < 12 := hi
   rcases (show i = 0 ∨ i = 1 ∨ i = 2 ∨ i = 3 ∨ i = 4 ∨ i = 5 ∨ i = 6 ∨ i = 7 ∨ i = 8 ∨ i = 9 ∨ i = 10 ∨ i = 11 by omega) with rfl | rfl | rfl | rfl | rfl | rfl | rfl | rfl | rfl | rfl | rfl | rfl
   · obtain rfl : x = [98, 111, 97, 114, 100] := hxe
     clear hk hi hi2 HKEY
     have HS := Lib.hid (rsecond_any _ ws w2 HW2.out (by have := HML.out; omega))
     rw [HML.out] at HS
     have HSL : Hid ((secW ws).length ≤ 1000000) := Lib.hid (by
       unfold secW
       cases he : ws[1]? with
       | none => simp
       | some y => exact HWL.out y (List.mem_of_getElem? he))
     obtain ⟨sw, hsw⟩ : ∃ y, secW ws = y := ⟨_, rfl⟩;have HSW := Lib.hid hsw;rw [hsw] at HS HSL;clear hsw
     go_wp2_with fail
     refine HS.out.mono ?_;rintro e w22 ⟨rfl, e22⟩;subst w22;clear HS;have HC := Lib.hid (rnumber_any sw w2 HSL.out)
     go_wp2_with fail
     refine HC.out.mono ?_;rintro e w3 ⟨rfl, hb3⟩;have HX3 := Lib.hid ((hb3.block _ (bx_lt HX2.out)).trans HX2.out);have HZ3 := Lib.hid ((hb3.block _ (bx_lt HZ2.out)).trans HZ2.out);have HO3 := Lib.hid (HO2.out.up hb3);have HB3 := Lib.hid (below_step HB2.out hb3);have q := bx_cell HX3.out 0 rfl;have f := bx_frozen HX3.out 0
     have HE : Hid (GrowEnd h r w g' (w3.setCell ⟨r, 0, none⟩ (.int .i64 (numR sw)))) := Lib.hid (by
       rw [HGI.out]
       exact growEnd_set (vn := vn) (vt := vt) (vk := vk) (vc := vc) (by rw [← HRE.out]; exact hh) hh (HB3.out.mono hh) HX3.out HZ3.out ⟨HO3.out.next, HO3.out.turn, HO3.out.kinds, HO3.out.clauses⟩ (by unfold gcs growN; simp; rw [HSW.out]))
     clear hb3 HC
     go_wp2_with fail
     go_meet
     exact HE.out
   · exact absurd (HKEY.out 1 (by rw [HHD.out]; exact hk)) (by decide)
   · obtain rfl : x = [116, 117, 114, 110] := hxe
     clear hk hi hi2 HKEY
     have HLS := Lib.hid (fun (v' : Value) (hv : WordsIn w2 v' ws.tail) => rlist_any v' ws.tail w2 hv (by have := HML.out; simp; omega) (fun y hy => HWL.out y (List.mem_of_mem_tail hy)))
     have HWT := Lib.hid (fun a2 n2 k2 h1 h2 h3 => words_tail HML.out HW2.out a2 n2 k2 h1 h2 h3)
     have hcase : ((1 = cw) = True ∧ (cw = 1) = True) ∨ ((1 = cw) = False ∧ (cw = 1) = False) := by
       by_cases hc1 : cw = 1
       · left; subst hc1; exact ⟨by simp, by simp⟩
       · right; exact ⟨by simp; omega, by simp; omega⟩
     have HMZ : Hid (cw = 1 → m = 0) := Lib.hid (fun h => by omega)
     rcases hcase with ⟨e1, e2⟩ | ⟨e1, e2⟩
     all_goals
       go_wp2_with fail
       refine (HLS.out _ (HWT.out _ _ _ ?_ ?_ ?_)).mono ?_
       · first | rfl | omega
       · first | omega | (have := HMZ.out (by simpa using e2); omega)
       · first | (right; rfl) | (left; exact HMZ.out (by simpa using e2))
       rintro e w3 ⟨vr, rfl, hvr, hb3⟩;have HX3 := Lib.hid ((hb3.block _ (bx_lt HX2.out)).trans HX2.out);have HZ3 := Lib.hid ((hb3.block _ (bx_lt HZ2.out)).trans HZ2.out);have HO3 := Lib.hid (HO2.out.up hb3);have HB3 := Lib.hid (below_step HB2.out hb3);obtain ⟨av, cv, ev, _⟩ := OwnInts.ints hvr;obtain ⟨ln, hln⟩ : ∃ ln, (ws.tail.map numR).length = ln := ⟨_, rfl⟩;rw [hln] at ev;clear hln;subst ev;have HVR := Lib.hid (OwnInts.mono hvr (Nat.le_trans hh HB2.out.size));have q := bx_cell HX3.out 2 rfl;have f := bx_frozen HX3.out 2
       have HE : Hid (GrowEnd h r w g' (w3.setCell ⟨r, 2, none⟩ (.slice av ln cv))) := Lib.hid (by
         rw [HGI.out]
         exact growEnd_set (vn := vn) (vt := .slice av ln cv) (vk := vk) (vc := vc) (by rw [← HRE.out]; exact hh) hh (HB3.out.mono hh) HX3.out HZ3.out ⟨HO3.out.next, HVR.out, HO3.out.kinds, HO3.out.clauses⟩ (by unfold gcs growN; simp))
       clear hb3 hvr
       go_wp2_with fail
       go_meet
       exact HE.out
   · exact absurd (HKEY.out 3 (by rw [HHD.out]; exact hk)) (by decide)
   · exact absurd (HKEY.out 4 (by rw [HHD.out]; exact hk)) (by decide)
   · obtain rfl : x = [114, 105, 103, 104, 116, 115] := hxe
     clear hk hi hi2 HKEY;have HC := Lib.hid (rnumber_any la w2 HLL.out)
     go_wp2_with fail
     refine HC.out.mono ?_;rintro e w3 ⟨rfl, hb3⟩;have HX3 := Lib.hid ((hb3.block _ (bx_lt HX2.out)).trans HX2.out);have HZ3 := Lib.hid ((hb3.block _ (bx_lt HZ2.out)).trans HZ2.out);have HO3 := Lib.hid (HO2.out.up hb3);have HB3 := Lib.hid (below_step HB2.out hb3);have q := bx_cell HX3.out 4 rfl;have f := bx_frozen HX3.out 4
     have HE : Hid (GrowEnd h r w g' (w3.setCell ⟨r, 4, none⟩ (.int .i64 (numR la)))) := Lib.hid (by
       rw [HGI.out]
       exact growEnd_set (vn := vn) (vt := vt) (vk := vk) (vc := vc) (by rw [← HRE.out]; exact hh) hh (HB3.out.mono hh) HX3.out HZ3.out ⟨HO3.out.next, HO3.out.turn, HO3.out.kinds, HO3.out.clauses⟩ (by unfold gcs growN; simp; rw [HLA.out]))
     clear hb3 HC
     go_wp2_with fail
     go_meet
     exact HE.out
   · obtain rfl : x = [109, 117, 115, 116] := hxe
     clear hk hi hi2 HKEY;have q := bx_cell HX2.out 5 rfl;have f := bx_frozen HX2.out 5
     have HE : Hid (GrowEnd h r w g' (w2.setCell ⟨r, 5, none⟩ (.bool true))) := Lib.hid (by
       rw [HGI.out]
       exact growEnd_set (vn := vn) (vt := vt) (vk := vk) (vc := vc) (by rw [← HRE.out]; exact hh) hh (HB2.out.mono hh) HX2.out HZ2.out ⟨HO2.out.next, HO2.out.turn, HO2.out.kinds, HO2.out.clauses⟩ (by unfold gcs growN; simp))
     go_wp2_with fail
     go_meet
     exact HE.out
   · exact absurd (HKEY.out 7 (by rw [HHD.out]; exact hk)) (by decide)
   · exact absurd (HKEY.out 8 (by rw [HHD.out]; exact hk)) (by decide)
   · exact absurd (HKEY.out 9 (by rw [HHD.out]; exact hk)) (by decide)
   · obtain rfl : x = [98, 108, 111, 99, 107, 101, 100] := hxe
     clear hk hi hi2 HKEY;have HC := Lib.hid (routcome_any la w2)
     go_wp2_with fail
     refine HC.out.mono ?_;rintro e w3 ⟨rfl, hb3⟩;have HX3 := Lib.hid ((hb3.block _ (bx_lt HX2.out)).trans HX2.out);have HZ3 := Lib.hid ((hb3.block _ (bx_lt HZ2.out)).trans HZ2.out);have HO3 := Lib.hid (HO2.out.up hb3);have HB3 := Lib.hid (below_step HB2.out hb3);have q := bx_cell HX3.out 7 rfl;have f := bx_frozen HX3.out 7
     have HE : Hid (GrowEnd h r w g' (w3.setCell ⟨r, 7, none⟩ (.int .i64 (resN la)))) := Lib.hid (by
       rw [HGI.out]
       exact growEnd_set (vn := vn) (vt := vt) (vk := vk) (vc := vc) (by rw [← HRE.out]; exact hh) hh (HB3.out.mono hh) HX3.out HZ3.out ⟨HO3.out.next, HO3.out.turn, HO3.out.kinds, HO3.out.clauses⟩ (by unfold gcs growN; simp; rw [HLA.out]))
     clear hb3 HC
     go_wp2_with fail
     go_meet
     exact HE.out
   · obtain rfl : x = [101, 110, 100, 108, 101, 115, 115] := hxe
     clear hk hi hi2 HKEY;have HC := Lib.hid (routcome_any la w2)
     go_wp2_with fail
     refine HC.out.mono ?_;rintro e w3 ⟨rfl, hb3⟩;have HX3 := Lib.hid ((hb3.block _ (bx_lt HX2.out)).trans HX2.out);have HZ3 := Lib.hid ((hb3.block _ (bx_lt HZ2.out)).trans HZ2.out);have HO3 := Lib.hid (HO2.out.up hb3);have HB3 := Lib.hid (below_step HB2.out hb3);have q := bx_cell HX3.out 8 rfl;have f := bx_frozen HX3.out 8
     have HE : Hid (GrowEnd h r w g' (w3.setCell ⟨r, 8, none⟩ (.int .i64 (resN la)))) := Lib.hid (by
       rw [HGI.out]
       exact growEnd_set (vn := vn) (vt := vt) (vk := vk) (vc := vc) (by rw [← HRE.out]; exact hh) hh (HB3.out.mono hh) HX3.out HZ3.out ⟨HO3.out.next, HO3.out.turn, HO3.out.kinds, HO3.out.clauses⟩ (by unfold gcs growN; simp; rw [HLA.out]))
     clear hb3 HC
     go_wp2_with fail
     go_meet
     exact HE.out
 case rest =>
   obtain ⟨vn', vt', vk', vc', hx, hz, hO, hb⟩ := hcut
   have hone : (gcs g' vn' vt' vk' vc').all (·.oneCell') = true := by
     obtain ⟨y, hy, _⟩ := hO.game
     rw [hy]; simp [GameD.cells, Value.oneCell']
   have hsz : (gcs g' vn' vt' vk' vc').size = 9 := rfl
   have hal : Alters (fun b => b = r + 1) wc (wc.setRow (r + 1) (gcs g' vn' vt' vk' vc')) := ⟨rfl, rfl, rfl, by rw [size_setRow]; exact Nat.le_refl _, fun k _ hs => setRow_other wc (r + 1) k _ hs⟩
   have HQ : Hid ((wc.setRow (r + 1) (gcs g' vn' vt' vk' vc')).heap[r + 1]? = some (.cells (gcs g' vn' vt' vk' vc') 38 (0, 0))) := Lib.hid (setRow_heap wc (r + 1) _ _ _ _ hz)
   have HFIN : Hid (∃ a1 a2 a3 a4, Ending.returned (.agg (gcs g' vn' vt' vk' vc')) = .returned (.agg (gcs g' a1 a2 a3 a4)) ∧ OwnD h (wc.setRow (r + 1) (gcs g' vn' vt' vk' vc')) a1 a2 a3 a4 g' ∧ Below h w (wc.setRow (r + 1) (gcs g' vn' vt' vk' vc'))) :=
     Lib.hid ⟨_, _, _, _, rfl, hO.alt hal (notTs_box hz), hb.trans (hal.below (Nat.le_trans hh hb.size) (fun k hk => by have hk : k = r + 1 := hk; have := HRE.out; omega))⟩
   have HX := Lib.hid hx;have HZ := Lib.hid hz;have HONE := Lib.hid hone;have HSZ := Lib.hid hsz;clear hx hz hO hb hone hsz hal;generalize gcs g' vn' vt' vk' vc' = CC at *
   have HIS : Hid ((Tryz.prog.info? 38).map (·.size) = some CC.size) := Lib.hid (by rw [HSZ.out]; exact info_gameC)
   have HZS : Hid (zeroC.size = CC.size) := Lib.hid (by rw [HSZ.out]; rfl)
   go_wp2_with (first | (refine wpList_load_row rfl 38 (.tmp 2) rfl r rfl 38 CC (0, 0) _ HX.out Tryz.underlying38 rfl HIS.out ?_) | (refine wpList_store_row rfl 38 (.tmp 4) (.tmp 164) rfl (r + 1) CC rfl rfl 38 zeroC HZ.out HIS.out HZS.out HONE.out ?_));(try simp only [Exit.inBlock, Exit.then]);refine bodyPost_ret_by (v := .agg CC) (results_cell_row rfl _ _ (r + 1) 38 _ (0, 0) _ rfl HQ.out Tryz.underlying38 rfl HIS.out) rfl ?_;exact HFIN.out
theorem grow_any (h : Nat) (g : GameD) (vn vt vk vc : Value) (s : List UInt8) (w : World) (hh : h ≤ w.heap.size) (hs : s.length ≤ 100000) (hn : (cutS s 32).length ≤ 1900) (hf : Few 1900 g) (hO : OwnD h w vn vt vk vc g) :
   Calls Tryz.prog 39 #[.agg (gcs g vn vt vk vc), .string ⟨s.toArray⟩] w fun e w' => ∃ vn' vt' vk' vc', e = .returned (.agg (gcs (growS g s) vn' vt' vk' vc')) ∧ OwnD h w' vn' vt' vk' vc' (growS g s) ∧ Below h w w' := by
 by_cases h1 : keyNo (headW (cutS s 32)) = some 1
 · exact grow_1 h g vn vt vk vc s w hh hs hn hf h1 hO
 by_cases h3 : keyNo (headW (cutS s 32)) = some 3
 · exact grow_3 h g vn vt vk vc s w hh hs hn hf h3 hO
 by_cases h4 : keyNo (headW (cutS s 32)) = some 4
 · exact grow_4 h g vn vt vk vc s w hh hs hn hf h4 hO
 by_cases h7 : keyNo (headW (cutS s 32)) = some 7
 · exact grow_7 h g vn vt vk vc s w hh hs hn hf h7 hO
 by_cases h8 : keyNo (headW (cutS s 32)) = some 8
 · exact grow_8 h g vn vt vk vc s w hh hs hn hf h8 hO
 by_cases h9 : keyNo (headW (cutS s 32)) = some 9
 · exact grow_9 h g vn vt vk vc s w hh hs hn hf h9 hO
 exact grow_0 h g vn vt vk vc s w hh hs hn hf (fun i hi => ⟨fun e => h1 (by rw [hi, e]), fun e => h3 (by rw [hi, e]), fun e => h4 (by rw [hi, e]), fun e => h7 (by rw [hi, e]), fun e => h8 (by rw [hi, e]), fun e => h9 (by rw [hi, e])⟩) hO
end Go.Proofs.YtbmcngoeinginaaGreatDoor
