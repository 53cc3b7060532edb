/-
 GameMatchesReference of the laws.
-/
import Derived.Test.YtbmcngoeinginaaGreatDoorTk
import Derived.Test.YtbmcngoeinginaaGreatDoorCSam
import Derived.Test.YtbmcngoeinginaaGreatDoorKMadeV
import Derived.Test.YtbmcngoeinginaaGreatDoorKCod
import Derived.Test.YtbmcngoeinginaaGreatDoorKPcl
import Derived.Test.YtbmcngoeinginaaGreatDoorKRdO
import Derived.Test.YtbmcngoeinginaaGreatDoorCRea
import Derived.Deep.RegionHeld3
import Derived.Laws.BytesArg
import Derived.IntWalk
namespace Go.Proofs.YtbmcngoeinginaaGreatDoor
open Go Go.RowKit Go.Lib
attribute [local irreducible] Go.wpQuiet
theorem mod_of {g : GameD} (h : validG g = true) : Mod g := by
 have B := validG_bounds h
 have hK := kind_of h
 exact ⟨Nat.le_trans B.next (by decide), Nat.le_trans B.kinds.2 (by decide), fun k hk => Nat.le_trans (B.kind k hk).2 (by decide), fun k hk p hp => Nat.le_trans (valid_len ((hK k hk).2.2 p hp)).2 (by decide), Nat.le_trans B.clauses (by decide)⟩
theorem text_some {g : GameD} (h : validG g = true) : 0 < (writtenG g).length := by
 rw [written_flat h]
 unfold linesG
 simp [flatL]
 omega
structure MtC (w : World) (p q : Nat) (cs ds : Array Value) (T : TypeId) (W : World) : Prop where
 b : Below w.heap.size w W
 h8 : W.heap[p]? = some (.cells cs 38 (0, 0))
 h9 : W.heap[q]? = some (.cells ds T (0, 0))
theorem MtC.up {w W W' : World} {p q : Nat} {cs ds : Array Value} {T : TypeId} (h : MtC w p q cs ds T W) (hb : Below W.heap.size W W') : MtC w p q cs ds T W' :=
 ⟨below_step h.b hb, (hb.block _ (bx_lt h.h8)).trans h.h8, (hb.block _ (bx_lt h.h9)).trans h.h9⟩
theorem mod_parsed (t : List UInt8) : Mod (parsedG t) := by
 unfold parsedG
 split
 · next h =>
   unfold okG at h;rw [Bool.and_eq_true] at h;exact mod_of h.1
 · exact ⟨by decide, by decide, fun k h => (by cases h), fun k h => (by cases h), by decide⟩
theorem take_extC (T : List UInt8) (i : Nat) : (⟨T.toArray⟩ : ByteArray).extract 0 i = ⟨(T.take i).toArray⟩ := by
 apply ByteArray.ext
 rw [ByteArray.data_extract]
 simp
theorem drop_extC (T : List UInt8) (k : Nat) : (⟨T.toArray⟩ : ByteArray).extract k T.length = ⟨(T.drop k).toArray⟩ := by
 apply ByteArray.ext
 rw [ByteArray.data_extract]
 simp
 rw [List.take_of_length_le (by rw [List.length_drop]; omega)]
theorem byte_str (z : Int) (W : World) (b : Nat) (h : W.cell? ⟨b, 0, none⟩ = some (.int .u8 z)) :
   (convert 22 9 (.slice (some ⟨b, 0, none⟩) 1 1)).run Tryz.prog W = .ok (.string ⟨#[UInt8.ofNat z.toNat]⟩) W := by
 have hr := run_convert_bytes_arg (P := Tryz.prog) W 22 5 Tryz.underlying22 Tryz.underlying5 b 0 1 1 [z] rfl (fun i hi => by
   obtain rfl : i = 0 := by omega
   simpa using h) 9 Tryz.underlying9
 rw [hr]
 simp [strOfNums]
set_option maxRecDepth 100000 in
set_option maxHeartbeats 3000000 in
theorem mat_any (x : GRaw) (a0 a1 a2 : Option Addr) (c0 c1 c2 N : Nat) (s : List UInt8) (na nb : Int) (w : World) (hna : 0 ≤ na ∧ na ≤ 65535) (hnb : 0 ≤ nb ∧ nb ≤ 65535) (hN : N ≤ w.heap.size) (hI : GRawIn N w a0 a1 a2 x) (hL : LibIn w) (hR : ResIn w) :
   Calls Tryz.prog 3 #[.agg (x.cells a0 a1 a2 c0 c1 c2), .string ⟨s.toArray⟩, .agg #[.int .u16 na, .int .u16 nb]] w fun e w' => e = .returned (.bool true) ∧ Below w.heap.size w w' := by
 have hbA : Below w.heap.size w ((w.alloc (.cells (x.cells a0 a1 a2 c0 c1 c2) 27)).alloc (.cells #[.int .u16 na, .int .u16 nb] 29)) := below_alloc (below_alloc (Below.refl _ w) _) _
 have hx1 : ((w.alloc (.cells (x.cells a0 a1 a2 c0 c1 c2) 27)).alloc (.cells #[.int .u16 na, .int .u16 nb] 29)).heap[w.heap.size]? = some (.cells (x.cells a0 a1 a2 c0 c1 c2) 27 (0, 0)) := hpo (hpn _ rfl)
 have hu1 : ((w.alloc (.cells (x.cells a0 a1 a2 c0 c1 c2) 27)).alloc (.cells #[.int .u16 na, .int .u16 nb] 29)).heap[w.heap.size + 1]? = some (.cells #[.int .u16 na, .int .u16 nb] 29 (0, 0)) := hpn _ (by simp)
 have HV := Lib.hid (made_valid hI)
 have HS := Lib.hid (fun W (h : Below w.heap.size w W) => sanity_any W (hL.up h) (hR.up h))
 have HM := Lib.hid (fun W (h : Below w.heap.size w W) => made_any x a0 a1 a2 c0 c1 c2 N W (Nat.le_trans hN h.size) (hI.up hN h))
 have HL := Lib.hid hL
 have HR := Lib.hid hR
 clear hL hR hI hN
 obtain ⟨ai, rfl⟩ := Int.eq_ofNat_of_zero_le hna.1
 obtain ⟨bi, rfl⟩ := Int.eq_ofNat_of_zero_le hnb.1
 have HNA : Hid (ai ≤ 65535) := Lib.hid (by omega)
 have HNB : Hid (bi ≤ 65535) := Lib.hid (by omega)
 clear hna hnb
 unfold GRaw.cells at *
 go_enter Tryz.func3, Tryz.ntmps3
 go_upto_region 1 with (fail)
 generalize (w.alloc (.cells #[.int .u8 x.w, .int .u8 x.h, .int .u8 x.cut, .slice a0 x.k0.length c0, .slice a1 x.k1.length c1, .slice a2 x.c.length c2, .int .u8 (x.f 0), .int .u8 (x.f 1), .int .u8 (x.f 2), .int .u8 (x.f 3), .int .u8 (x.f 4), .int .u8 (x.f 5)] 27)).alloc (.cells #[.int .u16 (ai : Int), .int .u16 (bi : Int)] 29) = w1 at *
 obtain ⟨xb, hxb⟩ : ∃ b, w.heap.size = b := ⟨_, rfl⟩
 have HXB := Lib.hid hxb
 rw [hxb] at hx1 hu1
 (try simp only [hxb])
 clear hxb
 go_wp2_with fail
 refine (HS.out w1 hbA).mono ?_
 rintro e w2 ⟨rfl, hb2⟩
 have hx2 := (hb2.block _ (bx_lt hx1)).trans hx1
 have HU2 := Lib.hid ((hb2.block _ (bx_lt hu1)).trans hu1)
 have HB2 := Lib.hid (below_step hbA hb2)
 clear hx1 hu1 hbA hb2 HS
 by_cases hs : 200 < s.length
 · have t1 : decide ((200 : Int) < (s.length : Int)) = true := by rw [decide_eq_true_eq]; omega
   clear hx2 HM;go_wp2
   go_ret
   exact ⟨by rfl, HB2.out⟩
 have t1 : decide ((200 : Int) < (s.length : Int)) = false := by rw [decide_eq_false_iff_not]; omega
 have r0 := bx_cell hx2 0 rfl
 have r1 := bx_cell hx2 1 rfl
 have r2 := bx_cell hx2 2 rfl
 have r3 := bx_cell hx2 3 rfl
 have r4 := bx_cell hx2 4 rfl
 have r5 := bx_cell hx2 5 rfl
 have r6 := bx_cell hx2 6 rfl
 have r7 := bx_cell hx2 7 rfl
 have r8 := bx_cell hx2 8 rfl
 have r9 := bx_cell hx2 9 rfl
 have r10 := bx_cell hx2 10 rfl
 have r11 := bx_cell hx2 11 rfl
 clear hx2
 go_wp2_with fail
 refine (HM.out w2 HB2.out).mono ?_
 rintro e w3 ⟨y, rfl, hG3, hb3⟩
 clear r0 r1 r2 r3 r4 r5 r6 r7 r8 r9 r10 r11 HM
 have HCO := Lib.hid (fun i b => cuts_odd HV.out i b)
 have HCT := Lib.hid (fun i => cuts_text HV.out i)
 have HCB := Lib.hid (cuts_both HV.out (s := s) (by omega))
 have HCS := Lib.hid (cuts_small (s := s) (by omega))
 have hbB : Below w3.heap.size w3 (w3.alloc (.cells ((madeD x).cells y) 38)) := below_alloc (Below.refl _ _) _
 have hbox : (w3.alloc (.cells ((madeD x).cells y) 38)).heap[w3.heap.size]? = some (.cells ((madeD x).cells y) 38 (0, 0)) := hpn _ rfl
 generalize madeD x = g at *
 have HG4 := Lib.hid (hG3.up (Nat.le_refl _) hbB)
 have HU4 := Lib.hid ((hbB.block _ (bx_lt ((hb3.block _ (bx_lt HU2.out)).trans HU2.out))).trans ((hb3.block _ (bx_lt HU2.out)).trans HU2.out))
 have HB4 := Lib.hid (below_step (below_step HB2.out hb3) hbB)
 clear hb3 hG3 hbB HU2 HB2 t1
 unfold GameD.cells at *
 go_upto_region 5 with (fail)
 obtain ⟨gb, hgb⟩ : ∃ gb, w3.heap.size = gb := ⟨_, rfl⟩
 rw [hgb] at hbox HG4
 (try simp only [hgb])
 have HGL : Hid (gb ≤ (w3.alloc (.cells #[.int .i64 g.b.cells, .slice y.an g.b.next.length y.cn, .slice y.at_ g.b.turn.length y.ct, .slice y.ak g.kinds.length y.ck, .int .i64 g.rights, .bool g.must, .slice y.ac g.clauses.length y.cc, .int .i64 g.blocked, .int .i64 g.endless] 38)).heap.size) := Lib.hid (Nat.le_of_lt (bx_lt hbox))
 clear hgb
 generalize w3.alloc (.cells #[.int .i64 g.b.cells, .slice y.an g.b.next.length y.cn, .slice y.at_ g.b.turn.length y.ct, .slice y.ak g.kinds.length y.ck, .int .i64 g.rights, .bool g.must, .slice y.ac g.clauses.length y.cc, .int .i64 g.blocked, .int .i64 g.endless] 38) = w4 at *
 have HX4 := Lib.hid hbox
 have HPT := Lib.hid (rprint3_any g y gb w4 (mod_of HV.out) HGL.out HG4.out)
 rw [show printG g = writtenG g by unfold printG; rw [if_pos HV.out]] at HPT
 unfold GameD.cells at HPT
 have q0 := bx_cell hbox 0 rfl
 have q1 := bx_cell hbox 1 rfl
 have q2 := bx_cell hbox 2 rfl
 have q3 := bx_cell hbox 3 rfl
 have q4 := bx_cell hbox 4 rfl
 have q5 := bx_cell hbox 5 rfl
 have q6 := bx_cell hbox 6 rfl
 have q7 := bx_cell hbox 7 rfl
 have q8 := bx_cell hbox 8 rfl
 clear hbox
 have HT0 := Lib.hid (text_some HV.out)
 have HTF := Lib.hid (text_free HV.out)
 obtain ⟨tx, htx⟩ : ∃ t, writtenG g = t := ⟨_, rfl⟩
 have HTX := Lib.hid htx
 rw [htx] at HPT HT0 HTF HCO HCT HCB
 clear htx
 go_wp2_with fail
 refine HPT.out.mono ?_
 rintro e w5 ⟨rfl, hb5⟩
 clear q0 q1 q2 q3 q4 q5 q6 q7 q8 HPT
 have HX5 := Lib.hid ((hb5.block _ (bx_lt HX4.out)).trans HX4.out)
 have HU5 := Lib.hid ((hb5.block _ (bx_lt HU4.out)).trans HU4.out)
 have HG5 := Lib.hid (HG4.out.up HGL.out hb5)
 have HB5 := Lib.hid (below_step HB4.out hb5)
 have HGL5 := Lib.hid (Nat.le_trans HGL.out hb5.size)
 clear hb5 HX4 HU4 HG4 HB4 HGL
 have l0 : (0 : Int) < (tx.length : Int) := by have := HT0.out; omega
 have l1 : ¬ (tx.length : Int) = 0 := by omega
 have l2 : (tx.length : Int) ≤ 99000 := by have := HTF.out.2.2; omega
 have v0 := bx_cell HU5.out 0 rfl
 have v1 := bx_cell HU5.out 1 rfl
 have hlt : ai % tx.length < tx.length := Nat.mod_lt ai (by omega)
 have y1 : IntKind.i64.wrap (ai : Int) = (ai : Int) := IntWalk.i64_in _ (by have := HNA.out; omega)
 have y3 : (ai : Int).tmod (tx.length : Int) = ((ai % tx.length : Nat) : Int) := rfl
 obtain ⟨i, hi⟩ : ∃ i, ai % tx.length = i := ⟨_, rfl⟩
 rw [hi] at hlt y3
 clear hi
 have y5 : IntKind.i64.wrap (i : Int) = (i : Int) := IntWalk.i64_in _ (by omega)
 go_upto_region 7 with (fail)
 replace v1 : w5.cell? ⟨xb + 1, 1, none⟩ = some (.int .u16 (bi : Int)) := v1
 have e1 := take_extC tx i
 have e2 := drop_extC tx (i + 1)
 obtain ⟨k, hk⟩ : ∃ k, i + 1 = k := ⟨_, rfl⟩
 have b1 : (i : Int) ≤ (tx.length : Int) := by omega
 have b2 : (k : Int) ≤ (tx.length : Int) := by omega
 have b3 : (0 : Int) ≤ (i : Int) := by omega
 have b4 : (0 : Int) ≤ (k : Int) := by omega
 have y6 : IntKind.i64.wrap ((i : Int) + 1) = (k : Int) := by rw [show (i : Int) + 1 = (k : Int) by omega]; exact IntWalk.i64_in _ (by omega)
 have HCO1 := Lib.hid (fun b => HCO.out i b)
 rw [hk] at e2 HCO1
 have f1 : (tx.take i).length ≤ 99000 := by rw [List.length_take]; omega
 have f2 : (tx.drop k).length ≤ 99000 := by rw [List.length_drop]; omega
 have HCT1 := Lib.hid (HCT.out i)
 clear HCO HCT hk v0 hlt
 obtain ⟨z, hz⟩ : ∃ z, IntKind.u8.wrap (bi : Int) = z := ⟨_, rfl⟩
 have hcv := byte_str z
 obtain ⟨yb, hyb⟩ : ∃ yb, UInt8.ofNat z.toNat = yb := ⟨_, rfl⟩
 rw [hyb] at hcv
 clear hyb
 have ce0 : (⟨(tx.take i).toArray⟩ ++ ⟨#[yb]⟩ ++ ⟨(tx.drop k).toArray⟩ : ByteArray) = ⟨(tx.take i ++ [yb] ++ tx.drop k).toArray⟩ := by simp [ByteArray.ext_iff]
 have ce1 : (⟨tx.toArray⟩ ++ ⟨s.toArray⟩ : ByteArray) = ⟨(tx ++ s).toArray⟩ := by simp [ByteArray.ext_iff]
 have HCO2 := Lib.hid (HCO1.out yb)
 clear HCO1
 generalize tx.take i = A at *
 generalize tx.drop k = B at *
 have h1 : ¬ 9223372036854775807 < A.length + 1 := by omega
 have h2 : ¬ 9223372036854775807 < A.length + 1 + B.length := by omega
 have h3 : ¬ 9223372036854775807 < tx.length + s.length := by omega
 have HH := Lib.hid (show A.length + 1 + B.length ≤ 200000 ∧ tx.length + s.length ≤ 200000 by omega)
 refine wp_region_noPanic ?_
 refine wp_region_held_drew (S := fun W => W.cell? ⟨xb + 1, 1, none⟩ = some (.int .u16 (bi : Int)) ∧ Below w5.heap.size w5 W) (by kernel_rfl) ⟨v1, (Below.refl _ _).drew⟩ (fun hHeld => ?_)
 refine TK 0 ?_
 (try simp only [pS])
 refine TK 1 ?_
 (try simp only [pS])
 refine TK 2 ?_
 (try simp only [pS])
 refine TK 3 ?_
 (try simp only [pS])
 refine TK 4 ?_
 (try simp only [pS])
 refine TK 5 ?_
 (try simp only [pS])
 refine TK 9 ?_
 (try simp only [pS])
 refine TK 10 ?_
 (try simp only [pS])
 refine TK 11 ?_
 (try simp only [pS])
 refine TK 12 ?_
 (try simp only [pS])
 refine wpAnyH_ready (rs := [6]) (by kernel_rfl) (by simp) ?_
 refine AC (fun K hK => ?_) AllReadyH.nil
 go_simp
 have hb6 : Below w5.heap.size w5 (w5.alloc (.cells #[.int .u8 z] 5)).drew := (below_alloc (Below.refl _ _) _).drew
 refine hK.out _ _ ⟨cell_keep hb6 v1, hb6⟩ (fun hS6 => ?_)
 clear hK K
 (try simp only [pS])
 refine wpAnyH_ready (rs := [7]) (by kernel_rfl) (by simp) ?_
 refine AC (fun K hK => ?_) AllReadyH.nil
 go_simp
 refine hK.out _ _ hS6 (fun hS7 => ?_)
 clear hK K
 (try simp only [pS])
 refine TK 8 ?_
 (try simp only [pS])
 refine TK 13 ?_
 (try simp only [pS])
 refine TK 14 ?_
 (try simp only [pS])
 refine wpAnyH_done (by kernel_rfl) ?_ _
 refine NoPanic.normal ?_
 have HB6 := Lib.hid (below_step HB5.out hS7.2)
 have HX6 := Lib.hid ((hS7.2.block _ (bx_lt HX5.out)).trans HX5.out)
 have HU6 := Lib.hid ((hS7.2.block _ (bx_lt HU5.out)).trans HU5.out)
 have HG6 := Lib.hid (HG5.out.up HGL5.out hS7.2)
 have HGL6 := Lib.hid (Nat.le_trans HGL5.out hS7.2.size)
 clear hS6 hS7 hb6 hHeld HB5 HX5 HU5 HG5 HGL5 v1 hcv ce0
 generalize (w5.alloc (.cells #[.int .u8 z] 5)).drew = w6 at *
 go_upto_region 9 with (fail)
 have hb7 : Below w6.heap.size w6 (w6.alloc (.cells #[.string ⟨s.toArray⟩, .string ⟨(A ++ yb :: B).toArray⟩, .string ⟨A.toArray⟩, .string ⟨(tx ++ s).toArray⟩] 41)) := below_alloc (Below.refl _ _) _
 have hbx : (w6.alloc (.cells #[.string ⟨s.toArray⟩, .string ⟨(A ++ yb :: B).toArray⟩, .string ⟨A.toArray⟩, .string ⟨(tx ++ s).toArray⟩] 41)).heap[w6.heap.size]? = some (.cells #[.string ⟨s.toArray⟩, .string ⟨(A ++ yb :: B).toArray⟩, .string ⟨A.toArray⟩, .string ⟨(tx ++ s).toArray⟩] 41 (0, 0)) := hpn _ rfl
 obtain ⟨bb, hbb⟩ : ∃ b, w6.heap.size = b := ⟨_, rfl⟩
 have HB7 := Lib.hid (below_step HB6.out hb7)
 have HX7 := Lib.hid ((hb7.block _ (bx_lt HX6.out)).trans HX6.out)
 have HU7 := Lib.hid ((hb7.block _ (bx_lt HU6.out)).trans HU6.out)
 have HG7 := Lib.hid (HG6.out.up HGL6.out hb7)
 have HGL7 := Lib.hid (Nat.le_trans HGL6.out hb7.size)
 clear hb7 HB6 HX6 HU6 HG6 HGL6
 rw [hbb] at hbx
 (try simp only [hbb])
 clear hbb
 generalize w6.alloc (.cells #[.string ⟨s.toArray⟩, .string ⟨(A ++ yb :: B).toArray⟩, .string ⟨A.toArray⟩, .string ⟨(tx ++ s).toArray⟩] 41) = w7 at *
 obtain ⟨tt, HTT⟩ : ∃ tt : Nat → List UInt8, Hid (∀ m, m < 4 → w7.cell? ⟨bb, m, none⟩ = some (.string ⟨(tt m).toArray⟩) ∧ Cuts (tt m)) := by
   refine ⟨fun m => match m with | 0 => s | 1 => A ++ yb :: B | 2 => A | _ => tx ++ s, Lib.hid (fun m hm => ?_)⟩
   rcases (show m = 0 ∨ m = 1 ∨ m = 2 ∨ m = 3 by omega) with rfl | rfl | rfl | rfl
   · exact ⟨bx_cell hbx 0 rfl, HCS.out⟩
   · exact ⟨bx_cell hbx 1 rfl, by have := HCO2.out; rw [List.append_assoc] at this; exact this⟩
   · exact ⟨bx_cell hbx 2 rfl, HCT1.out⟩
   · exact ⟨bx_cell hbx 3 rfl, HCB.out⟩
 clear hbx HCO2 HCT1 HCB HCS e1 e2 ce1 f1 f2 h1 h2 h3 HH b1 b2 b3 b4 y1 y3 y5 y6 hz l0 l1 l2
 go_wp2
 go_loopw [13] (fun jv wx => ∃ m : Nat, m ≤ 4 ∧ jv = .int .i64 (m : Int) ∧ Hid (Below w7.heap.size w7 wx)) (fun jv _ => 4 - (intOf jv).toNat)
 case atStart => exact ⟨0, Nat.zero_le _, rfl, Lib.hid (Below.refl _ _)⟩
 case round =>
   obtain ⟨m, hm, rfl, HBX⟩ := hrel
   by_cases hm4 : m < 4
   · have t1 : decide ((m : Int) < 4) = true := by rw [decide_eq_true_eq]; omega
     have b1 : (m : Int) < 4 := by omega
     have b2 : (0 : Int) ≤ (m : Int) := by omega
     have y1 : IntKind.i64.wrap ((m : Int) + 1) = (m : Int) + 1 := IntWalk.i64_in _ (by omega);have hcl := cell_keep HBX.out (HTT.out m hm4).1;have HC := Lib.hid (HTT.out m hm4).2;obtain ⟨t, ht⟩ : ∃ t, tt m = t := ⟨_, rfl⟩;rw [ht] at hcl HC;clear ht;have HBW := Lib.hid (below_step HB7.out HBX.out);have HXO := Lib.hid hcl
     have HP1 := Lib.hid (gparse_any t (by have := HC.out.len; omega) wr (HL.out.up HBW.out) (HR.out.up HBW.out))
     have HP2 := Lib.hid (fun W => rparse3_any t HC.out.len HC.out.lines HC.out.words W);have HMD := Lib.hid (mod_parsed t);unfold GParsed at HP1 HP2;generalize parsedG t = h at *;generalize parsedE t = pe at *;clear HC
     go_wp2_with fail
     refine HP1.out.mono ?_;rintro e w8 ⟨z1, rfl, hG8, hb8⟩;clear hcl HP1;have HXO8 := Lib.hid (cell_keep hb8 HXO.out);have HB8 := Lib.hid (below_step HBX.out hb8);clear hb8;have hbY := below_alloc (Below.refl _ w8) (.cells (h.cells z1) 38);have hY : (w8.alloc (.cells (h.cells z1) 38)).heap[w8.heap.size]? = some (.cells (h.cells z1) 38 (0, 0)) := hpn _ rfl;have HG9 := Lib.hid (hG8.up (Nat.le_refl _) hbY);have HN9 := Lib.hid hbY.size;have HXO9 := Lib.hid (cell_keep hbY HXO8.out);have HB9 := Lib.hid (below_step HB8.out hbY);clear hG8 hbY HXO HXO8 HB8 HBW;unfold GameD.cells at hY HG9 HN9 HXO9 HB9 ⊢;go_upto_region 13 with (fail);obtain ⟨p1, hp1⟩ : ∃ b, w8.heap.size = b := ⟨_, rfl⟩;rw [hp1] at hY HG9 HN9;(try simp only [hp1]);clear hp1
     generalize w8.alloc (.cells #[.int .i64 h.b.cells, .slice z1.an h.b.next.length z1.cn, .slice z1.at_ h.b.turn.length z1.ct, .slice z1.ak h.kinds.length z1.ck, .int .i64 h.rights, .bool h.must, .slice z1.ac h.clauses.length z1.cc, .int .i64 h.blocked, .int .i64 h.endless] 38) = w9 at *;have HY9 := Lib.hid hY;clear hY;have hcl := HXO9.out
     go_wp2_with fail
     refine (HP2.out w9).mono ?_;rintro e w10 ⟨z2, rfl, hG10, hb10⟩;clear hcl HP2 HXO9;have HY10 := Lib.hid ((hb10.block _ (bx_lt HY9.out)).trans HY9.out);have HG10 := Lib.hid (HG9.out.up HN9.out hb10);have HN10 := Lib.hid (Nat.le_trans HN9.out hb10.size);have HB10 := Lib.hid (below_step HB9.out hb10);clear hb10 HY9 HG9 HN9 HB9;have hbY := below_alloc (Below.refl _ w10) (.cells (h.cells z2) 38);have hY : (w10.alloc (.cells (h.cells z2) 38)).heap[w10.heap.size]? = some (.cells (h.cells z2) 38 (0, 0)) := hpn _ rfl;have HY11 := Lib.hid ((hbY.block _ (bx_lt HY10.out)).trans HY10.out);have HG11 := Lib.hid (HG10.out.up HN10.out hbY);have HN11 := Lib.hid (Nat.le_trans HN10.out hbY.size);have HH11 := Lib.hid (hG10.up (Nat.le_refl _) hbY);have HM11 := Lib.hid hbY.size;have HB11 := Lib.hid (below_step HB10.out hbY);clear hbY HY10 HG10 HN10 HB10 hG10
     unfold GameD.cells at hY HY11 HG11 HN11 HH11 HM11 HB11 ⊢;go_upto_region 14 with (fail);obtain ⟨p2, hp2⟩ : ∃ b, w10.heap.size = b := ⟨_, rfl⟩;rw [hp2] at hY HH11 HM11;(try simp only [hp2]);clear hp2;generalize w10.alloc (.cells #[.int .i64 h.b.cells, .slice z2.an h.b.next.length z2.cn, .slice z2.at_ h.b.turn.length z2.ct, .slice z2.ak h.kinds.length z2.ck, .int .i64 h.rights, .bool h.must, .slice z2.ac h.clauses.length z2.cc, .int .i64 h.blocked, .int .i64 h.endless] 38) = w11 at *;have hC : MtC w11 p1 p2 _ _ 38 w11 := ⟨Below.refl _ _, HY11.out, hY⟩;have hC2 := hC.up (Below.refl _ _).drew;clear hC hY HY11
     have HPA : Hid (∀ W, Below w11.heap.size w11 W → Calls Tryz.prog 15 #[.agg #[.int .i64 h.b.cells, .slice z1.an h.b.next.length z1.cn, .slice z1.at_ h.b.turn.length z1.ct, .slice z1.ak h.kinds.length z1.ck, .int .i64 h.rights, .bool h.must, .slice z1.ac h.clauses.length z1.cc, .int .i64 h.blocked, .int .i64 h.endless]] W fun e w' => e = .returned (.string ⟨(printG h).toArray⟩) ∧ Below W.heap.size W w') := Lib.hid (fun W hb => by
       have hbw := below_step (below_step HB7.out HB11.out) hb;exact gprint_any h z1 p1 W (Nat.le_trans HN11.out hb.size) (HG11.out.up HN11.out hb) (HL.out.up hbw) (HR.out.up hbw))
     have HPB : Hid (∀ W, Below w11.heap.size w11 W → Calls Tryz.prog 12 #[.agg #[.int .i64 h.b.cells, .slice z2.an h.b.next.length z2.cn, .slice z2.at_ h.b.turn.length z2.ct, .slice z2.ak h.kinds.length z2.ck, .int .i64 h.rights, .bool h.must, .slice z2.ac h.clauses.length z2.cc, .int .i64 h.blocked, .int .i64 h.endless]] W fun e w' => e = .returned (.string ⟨(printG h).toArray⟩) ∧ Below W.heap.size W w') := Lib.hid (fun W hb => rprint3_any h z2 p2 W HMD.out (Nat.le_trans HM11.out hb.size) (HH11.out.up HM11.out hb));refine wp_region_quiet (C := MtC w11 p1 p2 _ _ 38) (by kernel_rfl) (by kernel_rfl) hC2 ?_;clear hC2;dsimp only
     iterate 4
       refine wpQuiet_val (v := ?_) (by rfl) ?_ ?_;rotate_left
       · ((intro W hW; (try cases hW); go_simp); try with_reducible rfl)
       (try simp only [pS])
     refine wpQuiet_val (v := .agg #[.int .i64 h.b.cells, .slice z1.an h.b.next.length z1.cn, .slice z1.at_ h.b.turn.length z1.ct, .slice z1.ak h.kinds.length z1.ck, .int .i64 h.rights, .bool h.must, .slice z1.ac h.clauses.length z1.cc, .int .i64 h.blocked, .int .i64 h.endless]) (by rfl) (fun W hW => ?_) ?_
     · skip
       have q0 := bx_cell hW.h8 0 rfl;have q1 := bx_cell hW.h8 1 rfl;have q2 := bx_cell hW.h8 2 rfl;have q3 := bx_cell hW.h8 3 rfl;have q4 := bx_cell hW.h8 4 rfl;have q5 := bx_cell hW.h8 5 rfl;have q6 := bx_cell hW.h8 6 rfl;have q7 := bx_cell hW.h8 7 rfl;have q8 := bx_cell hW.h8 8 rfl;go_simp
     (try simp only [pS]);refine wpQuiet_val (v := .string ⟨(printG h).toArray⟩) (by rfl) (fun W hW => ?_) ?_
     · go_simp
       exact (HPA.out W hW.b).mono fun e w' ⟨he, hb⟩ => ⟨he, hW.up hb⟩
     (try simp only [pS]);refine wpQuiet_val (v := .agg #[.int .i64 h.b.cells, .slice z2.an h.b.next.length z2.cn, .slice z2.at_ h.b.turn.length z2.ct, .slice z2.ak h.kinds.length z2.ck, .int .i64 h.rights, .bool h.must, .slice z2.ac h.clauses.length z2.cc, .int .i64 h.blocked, .int .i64 h.endless]) (by rfl) (fun W hW => ?_) ?_
     · skip
       have q0 := bx_cell hW.h9 0 rfl;have q1 := bx_cell hW.h9 1 rfl;have q2 := bx_cell hW.h9 2 rfl;have q3 := bx_cell hW.h9 3 rfl;have q4 := bx_cell hW.h9 4 rfl;have q5 := bx_cell hW.h9 5 rfl;have q6 := bx_cell hW.h9 6 rfl;have q7 := bx_cell hW.h9 7 rfl;have q8 := bx_cell hW.h9 8 rfl;go_simp
     (try simp only [pS]);refine wpQuiet_val (v := .string ⟨(printG h).toArray⟩) (by rfl) (fun W hW => ?_) ?_
     · go_simp
       exact (HPB.out W hW.b).mono fun e w' ⟨he, hb⟩ => ⟨he, hW.up hb⟩
     (try simp only [pS])
     iterate 2
       refine wpQuiet_val (v := ?_) (by rfl) ?_ ?_;rotate_left
       · ((intro W hW; (try cases hW); go_simp); try with_reducible rfl)
       (try simp only [pS])
     refine wpQuiet_nil (fun w12 hW => ?_);have HB12 := Lib.hid (below_step HB11.out hW.b);clear hW HPA HPB HG11 HH11;go_wp2
     go_roundw
     case rel => exact ⟨m + 1, by omega, by first | rfl | go_num, HB12⟩
     case measure => simp [intOf]; omega
   · obtain rfl : m = 4 := by omega
     have t1 : decide (((4 : Nat) : Int) < 4) = false := by decide
     have HXw := Lib.hid ((HBX.out.block _ (bx_lt HX7.out)).trans HX7.out);have HUw := Lib.hid ((HBX.out.block _ (bx_lt HU7.out)).trans HU7.out);have HGw := Lib.hid (HG7.out.up HGL7.out HBX.out);have HGLw := Lib.hid (Nat.le_trans HGL7.out HBX.out.size);have HBw := Lib.hid (below_step HB7.out HBX.out);clear HX7 HU7 HG7 HGL7 HB7 HBX HTT;have v1 : wr.cell? ⟨xb + 1, 1, none⟩ = some (.int .u16 (bi : Int)) := bx_cell HUw.out 1 rfl;obtain ⟨nn, hnn⟩ : ∃ nn, IntKind.i64.wrap (IntKind.i16.wrap (bi : Int)) = nn := ⟨_, rfl⟩;go_upto_region 17 with (fail);have HC := Lib.hid (⟨Below.refl _ _, HXw.out, HUw.out⟩ : MtC wr gb (xb + 1) _ _ 29 wr);have hC2 := HC.out.up (Below.refl _ _).drew;clear HC v1 hnn hm4 hm t1
     have y1 : IntKind.i64.wrap (ai : Int) = (ai : Int) := IntWalk.i64_in _ (by have := HNA.out; omega)
     have y2 : (ai : Int).tmod 4 = ((ai % 4 : Nat) : Int) := rfl;have HQ4 : ai % 4 < 4 := Nat.mod_lt _ (by decide);obtain ⟨q, hq⟩ : ∃ q, ai % 4 = q := ⟨_, rfl⟩;rw [hq] at y2 HQ4;clear hq;have y3 : IntKind.i64.wrap (q : Int) = (q : Int) := IntWalk.i64_in _ (by omega);have y4 : IntKind.i64.wrap ((q : Int) - 1) = (q : Int) - 1 := IntWalk.i64_in _ (by omega);clear HQ4
     have HPA : Hid (∀ W, Below wr.heap.size wr W → Calls Tryz.prog 15 #[.agg #[.int .i64 g.b.cells, .slice y.an g.b.next.length y.cn, .slice y.at_ g.b.turn.length y.ct, .slice y.ak g.kinds.length y.ck, .int .i64 g.rights, .bool g.must, .slice y.ac g.clauses.length y.cc, .int .i64 g.blocked, .int .i64 g.endless]] W fun e w' => e = .returned (.string ⟨tx.toArray⟩) ∧ Below W.heap.size W w') := Lib.hid (fun W hb => by
       have hbw := below_step HBw.out hb;have := gprint_any g y gb W (Nat.le_trans HGLw.out hb.size) (HGw.out.up HGLw.out hb) (HL.out.up hbw) (HR.out.up hbw)
       rw [show printG g = tx by unfold printG; rw [if_pos HV.out, HTX.out]] at this
       exact this)
     have HFA : Hid (∀ W, Below wr.heap.size wr W → Calls Tryz.prog 16 #[.agg #[.int .i64 g.b.cells, .slice y.an g.b.next.length y.cn, .slice y.at_ g.b.turn.length y.ct, .slice y.ak g.kinds.length y.ck, .int .i64 g.rights, .bool g.must, .slice y.ac g.clauses.length y.cc, .int .i64 g.blocked, .int .i64 g.endless], .string ⟨s.toArray⟩] W fun e w' => e = .returned (.int .i64 (findD g.kinds s)) ∧ Below W.heap.size W w') := Lib.hid (fun W hb => gfind_any g y s gb W (by have := (mod_of HV.out).kinds; unfold maxLen; omega) (Nat.le_trans HGLw.out hb.size) (HGw.out.up HGLw.out hb).kinds)
     have HFB : Hid (∀ W, Below wr.heap.size wr W → Calls Tryz.prog 17 #[.agg #[.int .i64 g.b.cells, .slice y.an g.b.next.length y.cn, .slice y.at_ g.b.turn.length y.ct, .slice y.ak g.kinds.length y.ck, .int .i64 g.rights, .bool g.must, .slice y.ac g.clauses.length y.cc, .int .i64 g.blocked, .int .i64 g.endless], .string ⟨s.toArray⟩] W fun e w' => e = .returned (.int .i64 (findD g.kinds s)) ∧ Below W.heap.size W w') := Lib.hid (fun W hb => rfind_any g y s gb W (mod_of HV.out).kinds (Nat.le_trans HGLw.out hb.size) (HGw.out.up HGLw.out hb).kinds)
     have HCA : Hid (∀ W, Below wr.heap.size wr W → Calls Tryz.prog 18 #[.int .i64 nn, .int .i64 ((q : Int) - 1)] W fun e w' => e = .returned (.int .i64 (codeS nn ((q : Int) - 1))) ∧ Below W.heap.size W w') := Lib.hid (fun W hb => (code_any nn ((q : Int) - 1) W).mono fun e w' ⟨he, hw⟩ => ⟨he, by rw [hw]; exact Below.refl _ _⟩)
     have HCB : Hid (∀ W, Below wr.heap.size wr W → Calls Tryz.prog 19 #[.int .i64 nn, .int .i64 ((q : Int) - 1)] W fun e w' => e = .returned (.int .i64 (codeS nn ((q : Int) - 1))) ∧ Below W.heap.size W w') := Lib.hid (fun W hb => (rcode_any nn ((q : Int) - 1) W).mono fun e w' ⟨he, hw⟩ => ⟨he, by rw [hw]; exact Below.refl _ _⟩)
     have HMA : Hid (∀ W, Below wr.heap.size wr W → Calls Tryz.prog 20 #[.int .i64 nn] W fun e w' => e = .returned (.agg #[.int .i64 (manS nn).1, .int .i64 (manS nn).2]) ∧ Below W.heap.size W w') := Lib.hid (fun W hb => lman_any nn W);have HMB : Hid (∀ W, Below wr.heap.size wr W → Calls Tryz.prog 21 #[.int .i64 nn] W fun e w' => e = .returned (.agg #[.int .i64 (manS nn).1, .int .i64 (manS nn).2]) ∧ Below W.heap.size W w') := Lib.hid (fun W hb => rof_any nn W);generalize findD g.kinds s = fd at *;generalize codeS nn ((q : Int) - 1) = cd at *;generalize (manS nn).1 = m1 at *;generalize (manS nn).2 = m2 at *;refine wp_region_quiet (C := MtC wr gb (xb + 1) _ _ 29) (by kernel_rfl) (by kernel_rfl) hC2 ?_;clear hC2;dsimp only
     refine wpQuiet_val (v := .agg #[.int .i64 g.b.cells, .slice y.an g.b.next.length y.cn, .slice y.at_ g.b.turn.length y.ct, .slice y.ak g.kinds.length y.ck, .int .i64 g.rights, .bool g.must, .slice y.ac g.clauses.length y.cc, .int .i64 g.blocked, .int .i64 g.endless]) (by rfl) (fun W hW => ?_) ?_
     · skip
       have q0 := bx_cell hW.h8 0 rfl;have q1 := bx_cell hW.h8 1 rfl;have q2 := bx_cell hW.h8 2 rfl;have q3 := bx_cell hW.h8 3 rfl;have q4 := bx_cell hW.h8 4 rfl;have q5 := bx_cell hW.h8 5 rfl;have q6 := bx_cell hW.h8 6 rfl;have q7 := bx_cell hW.h8 7 rfl;have q8 := bx_cell hW.h8 8 rfl;go_simp
     (try simp only [pS]);refine wpQuiet_val (v := .string ⟨tx.toArray⟩) (by rfl) (fun W hW => ?_) ?_
     · go_simp
       exact (HPA.out W hW.b).mono fun e w' ⟨he, hb⟩ => ⟨he, hW.up hb⟩
     (try simp only [pS])
     iterate 3
       refine wpQuiet_val (v := ?_) (by rfl) ?_ ?_;rotate_left
       · ((intro W hW; (try cases hW); go_simp); try with_reducible rfl)
       (try simp only [pS])
     refine wpQuiet_val (v := .agg #[.int .i64 g.b.cells, .slice y.an g.b.next.length y.cn, .slice y.at_ g.b.turn.length y.ct, .slice y.ak g.kinds.length y.ck, .int .i64 g.rights, .bool g.must, .slice y.ac g.clauses.length y.cc, .int .i64 g.blocked, .int .i64 g.endless]) (by rfl) (fun W hW => ?_) ?_
     · skip
       have q0 := bx_cell hW.h8 0 rfl;have q1 := bx_cell hW.h8 1 rfl;have q2 := bx_cell hW.h8 2 rfl;have q3 := bx_cell hW.h8 3 rfl;have q4 := bx_cell hW.h8 4 rfl;have q5 := bx_cell hW.h8 5 rfl;have q6 := bx_cell hW.h8 6 rfl;have q7 := bx_cell hW.h8 7 rfl;have q8 := bx_cell hW.h8 8 rfl;go_simp
     (try simp only [pS]);refine wpQuiet_val (v := ?_) (by rfl) ?_ ?_;rotate_left
     · ((intro W hW; (try cases hW); go_simp); try with_reducible rfl)
     (try simp only [pS]);refine wpQuiet_val (v := .int .i64 fd) (by rfl) (fun W hW => ?_) ?_
     · go_simp
       exact (HFA.out W hW.b).mono fun e w' ⟨he, hb⟩ => ⟨he, hW.up hb⟩
     (try simp only [pS]);refine wpQuiet_val (v := .agg #[.int .i64 g.b.cells, .slice y.an g.b.next.length y.cn, .slice y.at_ g.b.turn.length y.ct, .slice y.ak g.kinds.length y.ck, .int .i64 g.rights, .bool g.must, .slice y.ac g.clauses.length y.cc, .int .i64 g.blocked, .int .i64 g.endless]) (by rfl) (fun W hW => ?_) ?_
     · skip
       have q0 := bx_cell hW.h8 0 rfl;have q1 := bx_cell hW.h8 1 rfl;have q2 := bx_cell hW.h8 2 rfl;have q3 := bx_cell hW.h8 3 rfl;have q4 := bx_cell hW.h8 4 rfl;have q5 := bx_cell hW.h8 5 rfl;have q6 := bx_cell hW.h8 6 rfl;have q7 := bx_cell hW.h8 7 rfl;have q8 := bx_cell hW.h8 8 rfl;go_simp
     (try simp only [pS]);refine wpQuiet_val (v := ?_) (by rfl) ?_ ?_;rotate_left
     · ((intro W hW; (try cases hW); go_simp); try with_reducible rfl)
     (try simp only [pS]);refine wpQuiet_val (v := .int .i64 fd) (by rfl) (fun W hW => ?_) ?_
     · go_simp
       exact (HFB.out W hW.b).mono fun e w' ⟨he, hb⟩ => ⟨he, hW.up hb⟩
     (try simp only [pS])
     iterate 5
       refine wpQuiet_val (v := ?_) (by rfl) ?_ ?_;rotate_left
       · ((intro W hW; (try cases hW); go_simp); try with_reducible rfl)
       (try simp only [pS])
     refine wpQuiet_val (v := .int .u16 (ai : Int)) (by rfl) (fun W hW => ?_) ?_
     · have q0 := bx_cell hW.h9 0 rfl
       go_simp
     (try simp only [pS])
     iterate 3
       refine wpQuiet_val (v := ?_) (by rfl) ?_ ?_;rotate_left
       · ((intro W hW; (try cases hW); go_simp); try with_reducible rfl)
       (try simp only [pS])
     refine wpQuiet_val (v := .int .i64 cd) (by rfl) (fun W hW => ?_) ?_
     · go_simp
       exact (HCA.out W hW.b).mono fun e w' ⟨he, hb⟩ => ⟨he, hW.up hb⟩
     (try simp only [pS])
     iterate 2
       refine wpQuiet_val (v := ?_) (by rfl) ?_ ?_;rotate_left
       · ((intro W hW; (try cases hW); go_simp); try with_reducible rfl)
       (try simp only [pS])
     refine wpQuiet_val (v := .int .u16 (ai : Int)) (by rfl) (fun W hW => ?_) ?_
     · have q0 := bx_cell hW.h9 0 rfl
       go_simp
     (try simp only [pS])
     iterate 3
       refine wpQuiet_val (v := ?_) (by rfl) ?_ ?_;rotate_left
       · ((intro W hW; (try cases hW); go_simp); try with_reducible rfl)
       (try simp only [pS])
     refine wpQuiet_val (v := .int .i64 cd) (by rfl) (fun W hW => ?_) ?_
     · go_simp
       exact (HCB.out W hW.b).mono fun e w' ⟨he, hb⟩ => ⟨he, hW.up hb⟩
     (try simp only [pS])
     iterate 4
       refine wpQuiet_val (v := ?_) (by rfl) ?_ ?_;rotate_left
       · ((intro W hW; (try cases hW); go_simp); try with_reducible rfl)
       (try simp only [pS])
     refine wpQuiet_val (v := .agg #[.int .i64 m1, .int .i64 m2]) (by rfl) (fun W hW => ?_) ?_
     · go_simp
       exact (HMA.out W hW.b).mono fun e w' ⟨he, hb⟩ => ⟨he, hW.up hb⟩
     (try simp only [pS]);refine wpQuiet_val (v := ?_) (by rfl) ?_ ?_;rotate_left
     · ((intro W hW; (try cases hW); go_simp); try with_reducible rfl)
     (try simp only [pS]);refine wpQuiet_val (v := .agg #[.int .i64 m1, .int .i64 m2]) (by rfl) (fun W hW => ?_) ?_
     · go_simp
       exact (HMB.out W hW.b).mono fun e w' ⟨he, hb⟩ => ⟨he, hW.up hb⟩
     (try simp only [pS])
     iterate 6
       refine wpQuiet_val (v := ?_) (by rfl) ?_ ?_;rotate_left
       · ((intro W hW; (try cases hW); go_simp); try with_reducible rfl)
       (try simp only [pS])
     refine wpQuiet_nil (fun w12 hW => ?_);have HBZ := Lib.hid (below_step HBw.out hW.b);clear hW;go_wp2
     go_ret
     exact ⟨by first | rfl | simp, HBZ.out⟩
end Go.Proofs.YtbmcngoeinginaaGreatDoor
