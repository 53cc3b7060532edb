/-
 GameTexts of the laws.
-/
import Derived.Test.YtbmcngoeinginaaGreatDoorCTwo
import Derived.Test.YtbmcngoeinginaaGreatDoorKMadeV
import Derived.Test.YtbmcngoeinginaaGreatDoorCEq
import Derived.Test.YtbmcngoeinginaaGreatDoorCBkD
namespace Go.Proofs.YtbmcngoeinginaaGreatDoor
open Go Go.RowKit Go.Lib
attribute [local irreducible] Go.wpQuiet
theorem mild_of {g : GameD} (h : validG g = true) : Mild g := by
 have B := validG_bounds h
 have hK := kind_of h
 have h1 := B.next
 have h2 := B.turn
 have h3 := B.kinds.2
 have h4 := B.clauses
 exact ⟨by omega, fun r hr => by have := (B.row r hr).1; omega, by omega, by omega, fun k hk => by have := (hK k hk).2.1; omega, fun k hk p hp => by have := (valid_len ((hK k hk).2.2 p hp)).2; omega, by omega⟩
theorem mild_zero : Mild zeroG := ⟨by decide, fun r h => (by cases h), by decide, by decide, fun k h => (by cases h), fun k h => (by cases h), by decide⟩
theorem print_valid {g : GameD} (h : validG g = true) : printG g = writtenG g := by unfold printG; rw [if_pos h]
theorem written_short {g : GameD} (h : validG g = true) : (writtenG g).length ≤ 1000000 := by
 have := written_le (validG_bounds h)
 omega
theorem parsed_cases (s : List UInt8) : (parsedG s = zeroG ∧ parsedE s = 3) ∨ (validG (parsedG s) = true ∧ printG (parsedG s) = s ∧ parsedE s = 0) := by
 unfold parsedG parsedE
 by_cases h : okG s = true
 · right
   rw [if_pos h, if_pos h]
   unfold okG at h
   rw [Bool.and_eq_true, decide_eq_true_eq] at h
   exact ⟨h.1, by rw [print_valid h.1, h.2], rfl⟩
 · left
   rw [if_neg h, if_neg h]
   exact ⟨rfl, rfl⟩
structure BC3 (w : World) (q8 q9 q11 : Nat) (l8 l9 l11 : Array Value) (W : World) : Prop where
 b : Below w.heap.size w W
 h8 : W.heap[q8]? = some (.cells l8 38 (0, 0))
 h9 : W.heap[q9]? = some (.cells l9 38 (0, 0))
 h11 : W.heap[q11]? = some (.cells l11 38 (0, 0))
theorem BC3.up {w W W' : World} {q8 q9 q11 : Nat} {l8 l9 l11 : Array Value} (h : BC3 w q8 q9 q11 l8 l9 l11 W) (hb : Below W.heap.size W W') : BC3 w q8 q9 q11 l8 l9 l11 W' :=
 ⟨below_step h.b hb, (hb.block _ (bx_lt h.h8)).trans h.h8, (hb.block _ (bx_lt h.h9)).trans h.h9, (hb.block _ (bx_lt h.h11)).trans h.h11⟩
theorem info_raw3 : (Tryz.prog.info? 27).map (·.size) = some 12 := by kernel_rfl
set_option maxRecDepth 100000 in
set_option maxHeartbeats 4000000 in
theorem tex_any (x x2 : GRaw) (a0 a1 a2 d0 d1 d2 : Option Addr) (c0 c1 c2 k0 k1 k2 N : Nat) (s : List UInt8) (w : World) (hN : N ≤ w.heap.size) (hI : GRawIn N w a0 a1 a2 x) (hJ : GRawIn N w d0 d1 d2 x2) (hL : LibIn w) (hR : ResIn w) :
   Calls Tryz.prog 5 #[.agg (x.cells a0 a1 a2 c0 c1 c2), .agg (x2.cells d0 d1 d2 k0 k1 k2), .string ⟨s.toArray⟩] w fun e w' => e = .returned (.bool true) ∧ Below w.heap.size w w' := by
 have hbA : Below w.heap.size w ((w.alloc (.cells (x.cells a0 a1 a2 c0 c1 c2) 27)).alloc (.cells (x2.cells d0 d1 d2 k0 k1 k2) 27)) := below_alloc (below_alloc (Below.refl _ w) _) _
 have hx1 : ((w.alloc (.cells (x.cells a0 a1 a2 c0 c1 c2) 27)).alloc (.cells (x2.cells d0 d1 d2 k0 k1 k2) 27)).heap[w.heap.size]? = some (.cells (x.cells a0 a1 a2 c0 c1 c2) 27 (0, 0)) := hpo (hpn _ rfl)
 have hx2 : ((w.alloc (.cells (x.cells a0 a1 a2 c0 c1 c2) 27)).alloc (.cells (x2.cells d0 d1 d2 k0 k1 k2) 27)).heap[w.heap.size + 1]? = some (.cells (x2.cells d0 d1 d2 k0 k1 k2) 27 (0, 0)) := hpn _ (by simp)
 have HS := Lib.hid (fun W (h : Below w.heap.size w W) => sanity_any W (hL.up h) (hR.up h))
 have HMA := Lib.hid (fun W (h : Below w.heap.size w W) => made_at x a0 a1 a2 c0 c1 c2 N W (Nat.le_trans hN h.size) (hI.up hN h))
 have HMB := Lib.hid (fun W (h : Below w.heap.size w W) => made_at x2 d0 d1 d2 k0 k1 k2 N W (Nat.le_trans hN h.size) (hJ.up hN h))
 have HV1 := Lib.hid (made_valid hI)
 have HV2 := Lib.hid (made_valid hJ)
 have HL := Lib.hid hL
 have HR := Lib.hid hR
 clear hL hR hI hJ hN
 go_enter Tryz.func5, Tryz.ntmps5
 go_upto_region 1 with (fail)
 generalize (w.alloc (.cells (x.cells a0 a1 a2 c0 c1 c2) 27)).alloc (.cells (x2.cells d0 d1 d2 k0 k1 k2) 27) = w1 at *
 go_wp2_with fail
 refine (HS.out w1 hbA).mono ?_
 rintro e w0 ⟨rfl, hb2⟩
 have HX1 := Lib.hid ((hb2.block _ (bx_lt hx1)).trans hx1)
 have HX2 := Lib.hid ((hb2.block _ (bx_lt hx2)).trans hx2)
 have HB0 := Lib.hid (below_step hbA hb2)
 clear hx1 hx2 hbA hb2 HS
 by_cases hs : 200 < s.length
 · have t1 : decide ((200 : Int) < (s.length : Int)) = true := by rw [decide_eq_true_eq]; omega
   clear HX1 HX2 HMA HMB
   go_wp2
   go_ret
   exact ⟨by rfl, HB0.out⟩
 have t1 : decide ((200 : Int) < (s.length : Int)) = false := by rw [decide_eq_false_iff_not]; omega
 have HSL : Hid (s.length ≤ 200) := Lib.hid (by omega)
 have HM1 := Lib.hid (fun W (h : Below w0.heap.size w0 W) => HMA.out W (below_step HB0.out h))
 have HM2 := Lib.hid (fun W (h : Below w0.heap.size w0 W) => HMB.out W (below_step HB0.out h))
 clear HMA HMB hs
 go_upto_region 4 with (fail)
 clear t1
 go_cut [8, 9, 20, 21, 22, 23] (fun s8 s9 _s20 _s21 _s22 _s23 wx => ∃ b8 b9 y y2, s8 = .pointer (some ⟨b8, 0, none⟩) ∧ s9 = .pointer (some ⟨b9, 0, none⟩) ∧ TwoMade w0 x x2 b8 b9 y y2 wx)
 case first =>
   clear HV1 HV2 HL HR HSL HB0
   have HS : Hid (∀ W, Below w0.heap.size w0 W → W.heap[w.heap.size]? = some (.cells (x.cells a0 a1 a2 c0 c1 c2) 27 (0, 0)) ∧ W.heap[(w.heap.size + 1)]? = some (.cells (x2.cells d0 d1 d2 k0 k1 k2) 27 (0, 0))) := Lib.hid (fun W h => ⟨(h.block _ (bx_lt HX1.out)).trans HX1.out, (h.block _ (bx_lt HX2.out)).trans HX2.out⟩)
   refine wp_region_held_drew (S := fun W => W.heap[w.heap.size]? = some (.cells (x.cells a0 a1 a2 c0 c1 c2) 27 (0, 0)) ∧ W.heap[(w.heap.size + 1)]? = some (.cells (x2.cells d0 d1 d2 k0 k1 k2) 27 (0, 0))) (by kernel_rfl) (HS.out _ (Below.refl _ w0).drew) (fun hHeld => ?_)
   have HBN := Lib.hid (Below.refl w0.heap.size w0).drew
   generalize w0.drew = u0 at *
   refine wpAnyH_take (i := 0) (oi := { dst := some 20, op := Op.load 27 (Operand.tmp 3), type := 27, pos := "law.go:107", after := #[], guard := none }) (v := .agg (x.cells a0 a1 a2 c0 c1 c2).toList.toArray) rfl (by kernel_rfl) (by kernel_rfl) (by kernel_rfl) (fun _ _ _ h => h) (yieldsIf_load_mid rfl 27 (.tmp 3) rfl w.heap.size 0 rfl (x.cells a0 a1 a2 c0 c1 c2).toList _ (fun W hW => range_of_box hW.1) Tryz.underlying27 rfl info_raw3) (by assumption) ?_
   (try simp only [Act.put, sA, sB, sC])
   refine wpAnyH_take (i := 2) (oi := { dst := some 22, op := Op.load 27 (Operand.tmp 4), type := 27, pos := "law.go:107", after := #[], guard := none }) (v := .agg (x2.cells d0 d1 d2 k0 k1 k2).toList.toArray) rfl (by kernel_rfl) (by kernel_rfl) (by kernel_rfl) (fun _ _ _ h => h) (yieldsIf_load_mid rfl 27 (.tmp 4) rfl (w.heap.size + 1) 0 rfl (x2.cells d0 d1 d2 k0 k1 k2).toList _ (fun W hW => range_of_box hW.2) Tryz.underlying27 rfl info_raw3) (by assumption) ?_
   (try simp only [Act.put, sA, sB, sC])
   (try rw [Array.toArray_toList])
   (try rw [Array.toArray_toList])
   clear hHeld
   refine wpAnyH_ready (rs := [1, 4, 5]) (by kernel_rfl) (by simp) ?_
   refine (AllReadyH.cons (o := { dst := some 21, op := Op.call { callee := Callee.value (Operand.func 11), args := #[Operand.tmp 20], argTypes := #[27] }, type := 38, pos := "law.go:107", after := #[{ on := 0, ground := Ground.data }], guard := none }) rfl (fun K hK => ?_) (AllReadyH.cons (o := { dst := some 8, op := Op.alloc 38, type := 0, pos := "law.go:107", after := #[], guard := none }) rfl (fun K hK => ?_) (AllReadyH.cons (o := { dst := some 9, op := Op.alloc 38, type := 0, pos := "law.go:107", after := #[], guard := none }) rfl (fun K hK => ?_) AllReadyH.nil)))
   refine step_call_g rfl 11 _ _ #[.agg (x.cells a0 a1 a2 c0 c1 c2)] rfl rfl (enters_of Tryz.func11 (by kernel_rfl) rfl) ((HM1.out u0 HBN.out).mono ?_)
   rintro e u1 ⟨y1, rfl, hG, hb⟩
   refine ⟨_, rfl, hK.out _ _ (HS.out _ (below_step HBN.out hb)) (fun _ => ?_)⟩
   clear hK K
   (try simp only [Act.put, sA, sB, sC])
   have HG1 := Lib.hid (hG.low HBN.out.size)
   replace HBN := Lib.hid (below_step HBN.out hb)
   clear hb hG
   refine wpAnyH_ready (rs := [3, 4, 5]) (by kernel_rfl) (by simp) ?_
   refine (AllReadyH.cons (o := { dst := some 23, op := Op.call { callee := Callee.value (Operand.func 11), args := #[Operand.tmp 22], argTypes := #[27] }, type := 38, pos := "law.go:107", after := #[{ on := 2, ground := Ground.data }, { on := 1, ground := Ground.chain }], guard := none }) rfl (fun K hK => ?_) (AllReadyH.cons (o := { dst := some 8, op := Op.alloc 38, type := 0, pos := "law.go:107", after := #[], guard := none }) rfl (fun K hK => ?_) (AllReadyH.cons (o := { dst := some 9, op := Op.alloc 38, type := 0, pos := "law.go:107", after := #[], guard := none }) rfl (fun K hK => ?_) AllReadyH.nil)))
   refine step_call_g rfl 11 _ _ #[.agg (x2.cells d0 d1 d2 k0 k1 k2)] rfl rfl (enters_of Tryz.func11 (by kernel_rfl) rfl) ((HM2.out u1 HBN.out).mono ?_)
   rintro e u2 ⟨y3, rfl, hG, hb⟩
   refine ⟨_, rfl, hK.out _ _ (HS.out _ (below_step HBN.out hb)) (fun _ => ?_)⟩
   clear hK K
   (try simp only [Act.put, sA, sB, sC])
   replace HG1 := Lib.hid (HG1.out.up hb)
   have HG3 := Lib.hid (hG.low HBN.out.size)
   replace HBN := Lib.hid (below_step HBN.out hb)
   clear hb hG
   refine wpAnyH_ready (rs := [4, 5]) (by kernel_rfl) (by simp) ?_
   refine (AllReadyH.cons (o := { dst := some 8, op := Op.alloc 38, type := 0, pos := "law.go:107", after := #[], guard := none }) rfl (fun K hK => ?_) (AllReadyH.cons (o := { dst := some 9, op := Op.alloc 38, type := 0, pos := "law.go:107", after := #[], guard := none }) rfl (fun K hK => ?_) AllReadyH.nil))
   go_simp
   refine hK.out _ _ (HS.out _ (below_alloc HBN.out _)) (fun _ => ?_)
   clear hK K
   (try simp only [Act.put, sA, sB, sC])
   have hb := below_alloc (Below.refl _ u2) (.cells zeroC 38)
   have hz : (u2.alloc (.cells zeroC 38)).heap[u2.heap.size]? = some (.cells zeroC 38 (0, 0)) := hpn _ rfl
   obtain ⟨b4, hbe⟩ : ∃ b, u2.heap.size = b := ⟨_, rfl⟩
   (try simp only [hbe])
   rw [hbe] at hz
   have HL4 : Hid (w0.heap.size ≤ b4) := Lib.hid (by rw [← hbe]; exact HBN.out.size)
   replace HG1 := Lib.hid (HG1.out.up hb)
   replace HG3 := Lib.hid (HG3.out.up hb)
   have HA4 := Lib.hid hz
   replace HBN := Lib.hid (below_step HBN.out hb)
   clear hb hz hbe
   have hzw : u2.alloc (.cells #[.int .i64 0, .slice none 0 0, .slice none 0 0, .slice none 0 0, .int .i64 0, .bool false, .slice none 0 0, .int .i64 0, .int .i64 0] 38) = u2.alloc (.cells zeroC 38) := rfl
   (try rw [hzw])
   clear hzw
   generalize u2.alloc (.cells zeroC 38) = u3 at *
   refine wpAnyH_ready (rs := [5]) (by kernel_rfl) (by simp) ?_
   refine (AllReadyH.cons (o := { dst := some 9, op := Op.alloc 38, type := 0, pos := "law.go:107", after := #[], guard := none }) rfl (fun K hK => ?_) AllReadyH.nil)
   go_simp
   refine hK.out _ _ (HS.out _ (below_alloc HBN.out _)) (fun _ => ?_)
   clear hK K
   (try simp only [Act.put, sA, sB, sC])
   have hb := below_alloc (Below.refl _ u3) (.cells zeroC 38)
   have hz : (u3.alloc (.cells zeroC 38)).heap[u3.heap.size]? = some (.cells zeroC 38 (0, 0)) := hpn _ rfl
   obtain ⟨b5, hbe⟩ : ∃ b, u3.heap.size = b := ⟨_, rfl⟩
   (try simp only [hbe])
   rw [hbe] at hz
   have HL5 : Hid (w0.heap.size ≤ b5) := Lib.hid (by rw [← hbe]; exact HBN.out.size)
   have HNE : Hid (b4 ≠ b5) := Lib.hid (by have := bx_lt HA4.out; omega)
   replace HG1 := Lib.hid (HG1.out.up hb)
   replace HG3 := Lib.hid (HG3.out.up hb)
   replace HA4 := Lib.hid ((hb.block _ (bx_lt HA4.out)).trans HA4.out)
   have HA5 := Lib.hid hz
   replace HBN := Lib.hid (below_step HBN.out hb)
   clear hb hz hbe
   have hzw : u3.alloc (.cells #[.int .i64 0, .slice none 0 0, .slice none 0 0, .slice none 0 0, .int .i64 0, .bool false, .slice none 0 0, .int .i64 0, .int .i64 0] 38) = u3.alloc (.cells zeroC 38) := rfl
   (try rw [hzw])
   clear hzw
   generalize u3.alloc (.cells zeroC 38) = u4 at *
   rotate_left 1
   go_simp
   refine hK.out _ _ (HS.out _ (below_alloc HBN.out _)) (fun _ => ?_)
   clear hK K
   (try simp only [Act.put, sA, sB, sC])
   have hb := below_alloc (Below.refl _ u2) (.cells zeroC 38)
   have hz : (u2.alloc (.cells zeroC 38)).heap[u2.heap.size]? = some (.cells zeroC 38 (0, 0)) := hpn _ rfl
   obtain ⟨b5, hbe⟩ : ∃ b, u2.heap.size = b := ⟨_, rfl⟩
   (try simp only [hbe])
   rw [hbe] at hz
   have HL5 : Hid (w0.heap.size ≤ b5) := Lib.hid (by rw [← hbe]; exact HBN.out.size)
   replace HG1 := Lib.hid (HG1.out.up hb)
   replace HG3 := Lib.hid (HG3.out.up hb)
   have HA5 := Lib.hid hz
   replace HBN := Lib.hid (below_step HBN.out hb)
   clear hb hz hbe
   have hzw : u2.alloc (.cells #[.int .i64 0, .slice none 0 0, .slice none 0 0, .slice none 0 0, .int .i64 0, .bool false, .slice none 0 0, .int .i64 0, .int .i64 0] 38) = u2.alloc (.cells zeroC 38) := rfl
   (try rw [hzw])
   clear hzw
   generalize u2.alloc (.cells zeroC 38) = u3 at *
   refine wpAnyH_ready (rs := [4]) (by kernel_rfl) (by simp) ?_
   refine (AllReadyH.cons (o := { dst := some 8, op := Op.alloc 38, type := 0, pos := "law.go:107", after := #[], guard := none }) rfl (fun K hK => ?_) AllReadyH.nil)
   go_simp
   refine hK.out _ _ (HS.out _ (below_alloc HBN.out _)) (fun _ => ?_)
   clear hK K
   (try simp only [Act.put, sA, sB, sC])
   have hb := below_alloc (Below.refl _ u3) (.cells zeroC 38)
   have hz : (u3.alloc (.cells zeroC 38)).heap[u3.heap.size]? = some (.cells zeroC 38 (0, 0)) := hpn _ rfl
   obtain ⟨b4, hbe⟩ : ∃ b, u3.heap.size = b := ⟨_, rfl⟩
   (try simp only [hbe])
   rw [hbe] at hz
   have HL4 : Hid (w0.heap.size ≤ b4) := Lib.hid (by rw [← hbe]; exact HBN.out.size)
   have HNE : Hid (b4 ≠ b5) := Lib.hid (by have := bx_lt HA5.out; omega)
   replace HG1 := Lib.hid (HG1.out.up hb)
   replace HG3 := Lib.hid (HG3.out.up hb)
   replace HA5 := Lib.hid ((hb.block _ (bx_lt HA5.out)).trans HA5.out)
   have HA4 := Lib.hid hz
   replace HBN := Lib.hid (below_step HBN.out hb)
   clear hb hz hbe
   have hzw : u3.alloc (.cells #[.int .i64 0, .slice none 0 0, .slice none 0 0, .slice none 0 0, .int .i64 0, .bool false, .slice none 0 0, .int .i64 0, .int .i64 0] 38) = u3.alloc (.cells zeroC 38) := rfl
   (try rw [hzw])
   clear hzw
   generalize u3.alloc (.cells zeroC 38) = u4 at *
   rotate_left 1
   go_simp
   refine hK.out _ _ (HS.out _ (below_alloc HBN.out _)) (fun _ => ?_)
   clear hK K
   (try simp only [Act.put, sA, sB, sC])
   have hb := below_alloc (Below.refl _ u1) (.cells zeroC 38)
   have hz : (u1.alloc (.cells zeroC 38)).heap[u1.heap.size]? = some (.cells zeroC 38 (0, 0)) := hpn _ rfl
   obtain ⟨b4, hbe⟩ : ∃ b, u1.heap.size = b := ⟨_, rfl⟩
   (try simp only [hbe])
   rw [hbe] at hz
   have HL4 : Hid (w0.heap.size ≤ b4) := Lib.hid (by rw [← hbe]; exact HBN.out.size)
   replace HG1 := Lib.hid (HG1.out.up hb)
   have HA4 := Lib.hid hz
   replace HBN := Lib.hid (below_step HBN.out hb)
   clear hb hz hbe
   have hzw : u1.alloc (.cells #[.int .i64 0, .slice none 0 0, .slice none 0 0, .slice none 0 0, .int .i64 0, .bool false, .slice none 0 0, .int .i64 0, .int .i64 0] 38) = u1.alloc (.cells zeroC 38) := rfl
   (try rw [hzw])
   clear hzw
   generalize u1.alloc (.cells zeroC 38) = u2 at *
   refine wpAnyH_ready (rs := [3, 5]) (by kernel_rfl) (by simp) ?_
   refine (AllReadyH.cons (o := { dst := some 23, op := Op.call { callee := Callee.value (Operand.func 11), args := #[Operand.tmp 22], argTypes := #[27] }, type := 38, pos := "law.go:107", after := #[{ on := 2, ground := Ground.data }, { on := 1, ground := Ground.chain }], guard := none }) rfl (fun K hK => ?_) (AllReadyH.cons (o := { dst := some 9, op := Op.alloc 38, type := 0, pos := "law.go:107", after := #[], guard := none }) rfl (fun K hK => ?_) AllReadyH.nil))
   refine step_call_g rfl 11 _ _ #[.agg (x2.cells d0 d1 d2 k0 k1 k2)] rfl rfl (enters_of Tryz.func11 (by kernel_rfl) rfl) ((HM2.out u2 HBN.out).mono ?_)
   rintro e u3 ⟨y3, rfl, hG, hb⟩
   refine ⟨_, rfl, hK.out _ _ (HS.out _ (below_step HBN.out hb)) (fun _ => ?_)⟩
   clear hK K
   (try simp only [Act.put, sA, sB, sC])
   replace HG1 := Lib.hid (HG1.out.up hb)
   replace HA4 := Lib.hid ((hb.block _ (bx_lt HA4.out)).trans HA4.out)
   have HG3 := Lib.hid (hG.low HBN.out.size)
   replace HBN := Lib.hid (below_step HBN.out hb)
   clear hb hG
   refine wpAnyH_ready (rs := [5]) (by kernel_rfl) (by simp) ?_
   refine (AllReadyH.cons (o := { dst := some 9, op := Op.alloc 38, type := 0, pos := "law.go:107", after := #[], guard := none }) rfl (fun K hK => ?_) AllReadyH.nil)
   go_simp
   refine hK.out _ _ (HS.out _ (below_alloc HBN.out _)) (fun _ => ?_)
   clear hK K
   (try simp only [Act.put, sA, sB, sC])
   have hb := below_alloc (Below.refl _ u3) (.cells zeroC 38)
   have hz : (u3.alloc (.cells zeroC 38)).heap[u3.heap.size]? = some (.cells zeroC 38 (0, 0)) := hpn _ rfl
   obtain ⟨b5, hbe⟩ : ∃ b, u3.heap.size = b := ⟨_, rfl⟩
   (try simp only [hbe])
   rw [hbe] at hz
   have HL5 : Hid (w0.heap.size ≤ b5) := Lib.hid (by rw [← hbe]; exact HBN.out.size)
   have HNE : Hid (b4 ≠ b5) := Lib.hid (by have := bx_lt HA4.out; omega)
   replace HG1 := Lib.hid (HG1.out.up hb)
   replace HG3 := Lib.hid (HG3.out.up hb)
   replace HA4 := Lib.hid ((hb.block _ (bx_lt HA4.out)).trans HA4.out)
   have HA5 := Lib.hid hz
   replace HBN := Lib.hid (below_step HBN.out hb)
   clear hb hz hbe
   have hzw : u3.alloc (.cells #[.int .i64 0, .slice none 0 0, .slice none 0 0, .slice none 0 0, .int .i64 0, .bool false, .slice none 0 0, .int .i64 0, .int .i64 0] 38) = u3.alloc (.cells zeroC 38) := rfl
   (try rw [hzw])
   clear hzw
   generalize u3.alloc (.cells zeroC 38) = u4 at *
   rotate_left 1
   go_simp
   refine hK.out _ _ (HS.out _ (below_alloc HBN.out _)) (fun _ => ?_)
   clear hK K
   (try simp only [Act.put, sA, sB, sC])
   have hb := below_alloc (Below.refl _ u2) (.cells zeroC 38)
   have hz : (u2.alloc (.cells zeroC 38)).heap[u2.heap.size]? = some (.cells zeroC 38 (0, 0)) := hpn _ rfl
   obtain ⟨b5, hbe⟩ : ∃ b, u2.heap.size = b := ⟨_, rfl⟩
   (try simp only [hbe])
   rw [hbe] at hz
   have HL5 : Hid (w0.heap.size ≤ b5) := Lib.hid (by rw [← hbe]; exact HBN.out.size)
   have HNE : Hid (b4 ≠ b5) := Lib.hid (by have := bx_lt HA4.out; omega)
   replace HG1 := Lib.hid (HG1.out.up hb)
   replace HA4 := Lib.hid ((hb.block _ (bx_lt HA4.out)).trans HA4.out)
   have HA5 := Lib.hid hz
   replace HBN := Lib.hid (below_step HBN.out hb)
   clear hb hz hbe
   have hzw : u2.alloc (.cells #[.int .i64 0, .slice none 0 0, .slice none 0 0, .slice none 0 0, .int .i64 0, .bool false, .slice none 0 0, .int .i64 0, .int .i64 0] 38) = u2.alloc (.cells zeroC 38) := rfl
   (try rw [hzw])
   clear hzw
   generalize u2.alloc (.cells zeroC 38) = u3 at *
   refine wpAnyH_ready (rs := [3]) (by kernel_rfl) (by simp) ?_
   refine (AllReadyH.cons (o := { dst := some 23, op := Op.call { callee := Callee.value (Operand.func 11), args := #[Operand.tmp 22], argTypes := #[27] }, type := 38, pos := "law.go:107", after := #[{ on := 2, ground := Ground.data }, { on := 1, ground := Ground.chain }], guard := none }) rfl (fun K hK => ?_) AllReadyH.nil)
   refine step_call_g rfl 11 _ _ #[.agg (x2.cells d0 d1 d2 k0 k1 k2)] rfl rfl (enters_of Tryz.func11 (by kernel_rfl) rfl) ((HM2.out u3 HBN.out).mono ?_)
   rintro e u4 ⟨y3, rfl, hG, hb⟩
   refine ⟨_, rfl, hK.out _ _ (HS.out _ (below_step HBN.out hb)) (fun _ => ?_)⟩
   clear hK K
   (try simp only [Act.put, sA, sB, sC])
   replace HG1 := Lib.hid (HG1.out.up hb)
   replace HA4 := Lib.hid ((hb.block _ (bx_lt HA4.out)).trans HA4.out)
   replace HA5 := Lib.hid ((hb.block _ (bx_lt HA5.out)).trans HA5.out)
   have HG3 := Lib.hid (hG.low HBN.out.size)
   replace HBN := Lib.hid (below_step HBN.out hb)
   clear hb hG
   rotate_left 1
   go_simp
   refine hK.out _ _ (HS.out _ (below_alloc HBN.out _)) (fun _ => ?_)
   clear hK K
   (try simp only [Act.put, sA, sB, sC])
   have hb := below_alloc (Below.refl _ u1) (.cells zeroC 38)
   have hz : (u1.alloc (.cells zeroC 38)).heap[u1.heap.size]? = some (.cells zeroC 38 (0, 0)) := hpn _ rfl
   obtain ⟨b5, hbe⟩ : ∃ b, u1.heap.size = b := ⟨_, rfl⟩
   (try simp only [hbe])
   rw [hbe] at hz
   have HL5 : Hid (w0.heap.size ≤ b5) := Lib.hid (by rw [← hbe]; exact HBN.out.size)
   replace HG1 := Lib.hid (HG1.out.up hb)
   have HA5 := Lib.hid hz
   replace HBN := Lib.hid (below_step HBN.out hb)
   clear hb hz hbe
   have hzw : u1.alloc (.cells #[.int .i64 0, .slice none 0 0, .slice none 0 0, .slice none 0 0, .int .i64 0, .bool false, .slice none 0 0, .int .i64 0, .int .i64 0] 38) = u1.alloc (.cells zeroC 38) := rfl
   (try rw [hzw])
   clear hzw
   generalize u1.alloc (.cells zeroC 38) = u2 at *
   refine wpAnyH_ready (rs := [3, 4]) (by kernel_rfl) (by simp) ?_
   refine (AllReadyH.cons (o := { dst := some 23, op := Op.call { callee := Callee.value (Operand.func 11), args := #[Operand.tmp 22], argTypes := #[27] }, type := 38, pos := "law.go:107", after := #[{ on := 2, ground := Ground.data }, { on := 1, ground := Ground.chain }], guard := none }) rfl (fun K hK => ?_) (AllReadyH.cons (o := { dst := some 8, op := Op.alloc 38, type := 0, pos := "law.go:107", after := #[], guard := none }) rfl (fun K hK => ?_) AllReadyH.nil))
   refine step_call_g rfl 11 _ _ #[.agg (x2.cells d0 d1 d2 k0 k1 k2)] rfl rfl (enters_of Tryz.func11 (by kernel_rfl) rfl) ((HM2.out u2 HBN.out).mono ?_)
   rintro e u3 ⟨y3, rfl, hG, hb⟩
   refine ⟨_, rfl, hK.out _ _ (HS.out _ (below_step HBN.out hb)) (fun _ => ?_)⟩
   clear hK K
   (try simp only [Act.put, sA, sB, sC])
   replace HG1 := Lib.hid (HG1.out.up hb)
   replace HA5 := Lib.hid ((hb.block _ (bx_lt HA5.out)).trans HA5.out)
   have HG3 := Lib.hid (hG.low HBN.out.size)
   replace HBN := Lib.hid (below_step HBN.out hb)
   clear hb hG
   refine wpAnyH_ready (rs := [4]) (by kernel_rfl) (by simp) ?_
   refine (AllReadyH.cons (o := { dst := some 8, op := Op.alloc 38, type := 0, pos := "law.go:107", after := #[], guard := none }) rfl (fun K hK => ?_) AllReadyH.nil)
   go_simp
   refine hK.out _ _ (HS.out _ (below_alloc HBN.out _)) (fun _ => ?_)
   clear hK K
   (try simp only [Act.put, sA, sB, sC])
   have hb := below_alloc (Below.refl _ u3) (.cells zeroC 38)
   have hz : (u3.alloc (.cells zeroC 38)).heap[u3.heap.size]? = some (.cells zeroC 38 (0, 0)) := hpn _ rfl
   obtain ⟨b4, hbe⟩ : ∃ b, u3.heap.size = b := ⟨_, rfl⟩
   (try simp only [hbe])
   rw [hbe] at hz
   have HL4 : Hid (w0.heap.size ≤ b4) := Lib.hid (by rw [← hbe]; exact HBN.out.size)
   have HNE : Hid (b4 ≠ b5) := Lib.hid (by have := bx_lt HA5.out; omega)
   replace HG1 := Lib.hid (HG1.out.up hb)
   replace HG3 := Lib.hid (HG3.out.up hb)
   replace HA5 := Lib.hid ((hb.block _ (bx_lt HA5.out)).trans HA5.out)
   have HA4 := Lib.hid hz
   replace HBN := Lib.hid (below_step HBN.out hb)
   clear hb hz hbe
   have hzw : u3.alloc (.cells #[.int .i64 0, .slice none 0 0, .slice none 0 0, .slice none 0 0, .int .i64 0, .bool false, .slice none 0 0, .int .i64 0, .int .i64 0] 38) = u3.alloc (.cells zeroC 38) := rfl
   (try rw [hzw])
   clear hzw
   generalize u3.alloc (.cells zeroC 38) = u4 at *
   rotate_left 1
   go_simp
   refine hK.out _ _ (HS.out _ (below_alloc HBN.out _)) (fun _ => ?_)
   clear hK K
   (try simp only [Act.put, sA, sB, sC])
   have hb := below_alloc (Below.refl _ u2) (.cells zeroC 38)
   have hz : (u2.alloc (.cells zeroC 38)).heap[u2.heap.size]? = some (.cells zeroC 38 (0, 0)) := hpn _ rfl
   obtain ⟨b4, hbe⟩ : ∃ b, u2.heap.size = b := ⟨_, rfl⟩
   (try simp only [hbe])
   rw [hbe] at hz
   have HL4 : Hid (w0.heap.size ≤ b4) := Lib.hid (by rw [← hbe]; exact HBN.out.size)
   have HNE : Hid (b4 ≠ b5) := Lib.hid (by have := bx_lt HA5.out; omega)
   replace HG1 := Lib.hid (HG1.out.up hb)
   replace HA5 := Lib.hid ((hb.block _ (bx_lt HA5.out)).trans HA5.out)
   have HA4 := Lib.hid hz
   replace HBN := Lib.hid (below_step HBN.out hb)
   clear hb hz hbe
   have hzw : u2.alloc (.cells #[.int .i64 0, .slice none 0 0, .slice none 0 0, .slice none 0 0, .int .i64 0, .bool false, .slice none 0 0, .int .i64 0, .int .i64 0] 38) = u2.alloc (.cells zeroC 38) := rfl
   (try rw [hzw])
   clear hzw
   generalize u2.alloc (.cells zeroC 38) = u3 at *
   refine wpAnyH_ready (rs := [3]) (by kernel_rfl) (by simp) ?_
   refine (AllReadyH.cons (o := { dst := some 23, op := Op.call { callee := Callee.value (Operand.func 11), args := #[Operand.tmp 22], argTypes := #[27] }, type := 38, pos := "law.go:107", after := #[{ on := 2, ground := Ground.data }, { on := 1, ground := Ground.chain }], guard := none }) rfl (fun K hK => ?_) AllReadyH.nil)
   refine step_call_g rfl 11 _ _ #[.agg (x2.cells d0 d1 d2 k0 k1 k2)] rfl rfl (enters_of Tryz.func11 (by kernel_rfl) rfl) ((HM2.out u3 HBN.out).mono ?_)
   rintro e u4 ⟨y3, rfl, hG, hb⟩
   refine ⟨_, rfl, hK.out _ _ (HS.out _ (below_step HBN.out hb)) (fun _ => ?_)⟩
   clear hK K
   (try simp only [Act.put, sA, sB, sC])
   replace HG1 := Lib.hid (HG1.out.up hb)
   replace HA4 := Lib.hid ((hb.block _ (bx_lt HA4.out)).trans HA4.out)
   replace HA5 := Lib.hid ((hb.block _ (bx_lt HA5.out)).trans HA5.out)
   have HG3 := Lib.hid (hG.low HBN.out.size)
   replace HBN := Lib.hid (below_step HBN.out hb)
   clear hb hG
   rotate_left 1
   go_simp
   refine hK.out _ _ (HS.out _ (below_alloc HBN.out _)) (fun _ => ?_)
   clear hK K
   (try simp only [Act.put, sA, sB, sC])
   have hb := below_alloc (Below.refl _ u0) (.cells zeroC 38)
   have hz : (u0.alloc (.cells zeroC 38)).heap[u0.heap.size]? = some (.cells zeroC 38 (0, 0)) := hpn _ rfl
   obtain ⟨b4, hbe⟩ : ∃ b, u0.heap.size = b := ⟨_, rfl⟩
   (try simp only [hbe])
   rw [hbe] at hz
   have HL4 : Hid (w0.heap.size ≤ b4) := Lib.hid (by rw [← hbe]; exact HBN.out.size)
   have HA4 := Lib.hid hz
   replace HBN := Lib.hid (below_step HBN.out hb)
   clear hb hz hbe
   have hzw : u0.alloc (.cells #[.int .i64 0, .slice none 0 0, .slice none 0 0, .slice none 0 0, .int .i64 0, .bool false, .slice none 0 0, .int .i64 0, .int .i64 0] 38) = u0.alloc (.cells zeroC 38) := rfl
   (try rw [hzw])
   clear hzw
   generalize u0.alloc (.cells zeroC 38) = u1 at *
   refine wpAnyH_ready (rs := [1, 5]) (by kernel_rfl) (by simp) ?_
   refine (AllReadyH.cons (o := { dst := some 21, op := Op.call { callee := Callee.value (Operand.func 11), args := #[Operand.tmp 20], argTypes := #[27] }, type := 38, pos := "law.go:107", after := #[{ on := 0, ground := Ground.data }], guard := none }) rfl (fun K hK => ?_) (AllReadyH.cons (o := { dst := some 9, op := Op.alloc 38, type := 0, pos := "law.go:107", after := #[], guard := none }) rfl (fun K hK => ?_) AllReadyH.nil))
   refine step_call_g rfl 11 _ _ #[.agg (x.cells a0 a1 a2 c0 c1 c2)] rfl rfl (enters_of Tryz.func11 (by kernel_rfl) rfl) ((HM1.out u1 HBN.out).mono ?_)
   rintro e u2 ⟨y1, rfl, hG, hb⟩
   refine ⟨_, rfl, hK.out _ _ (HS.out _ (below_step HBN.out hb)) (fun _ => ?_)⟩
   clear hK K
   (try simp only [Act.put, sA, sB, sC])
   replace HA4 := Lib.hid ((hb.block _ (bx_lt HA4.out)).trans HA4.out)
   have HG1 := Lib.hid (hG.low HBN.out.size)
   replace HBN := Lib.hid (below_step HBN.out hb)
   clear hb hG
   refine wpAnyH_ready (rs := [3, 5]) (by kernel_rfl) (by simp) ?_
   refine (AllReadyH.cons (o := { dst := some 23, op := Op.call { callee := Callee.value (Operand.func 11), args := #[Operand.tmp 22], argTypes := #[27] }, type := 38, pos := "law.go:107", after := #[{ on := 2, ground := Ground.data }, { on := 1, ground := Ground.chain }], guard := none }) rfl (fun K hK => ?_) (AllReadyH.cons (o := { dst := some 9, op := Op.alloc 38, type := 0, pos := "law.go:107", after := #[], guard := none }) rfl (fun K hK => ?_) AllReadyH.nil))
   refine step_call_g rfl 11 _ _ #[.agg (x2.cells d0 d1 d2 k0 k1 k2)] rfl rfl (enters_of Tryz.func11 (by kernel_rfl) rfl) ((HM2.out u2 HBN.out).mono ?_)
   rintro e u3 ⟨y3, rfl, hG, hb⟩
   refine ⟨_, rfl, hK.out _ _ (HS.out _ (below_step HBN.out hb)) (fun _ => ?_)⟩
   clear hK K
   (try simp only [Act.put, sA, sB, sC])
   replace HG1 := Lib.hid (HG1.out.up hb)
   replace HA4 := Lib.hid ((hb.block _ (bx_lt HA4.out)).trans HA4.out)
   have HG3 := Lib.hid (hG.low HBN.out.size)
   replace HBN := Lib.hid (below_step HBN.out hb)
   clear hb hG
   refine wpAnyH_ready (rs := [5]) (by kernel_rfl) (by simp) ?_
   refine (AllReadyH.cons (o := { dst := some 9, op := Op.alloc 38, type := 0, pos := "law.go:107", after := #[], guard := none }) rfl (fun K hK => ?_) AllReadyH.nil)
   go_simp
   refine hK.out _ _ (HS.out _ (below_alloc HBN.out _)) (fun _ => ?_)
   clear hK K
   (try simp only [Act.put, sA, sB, sC])
   have hb := below_alloc (Below.refl _ u3) (.cells zeroC 38)
   have hz : (u3.alloc (.cells zeroC 38)).heap[u3.heap.size]? = some (.cells zeroC 38 (0, 0)) := hpn _ rfl
   obtain ⟨b5, hbe⟩ : ∃ b, u3.heap.size = b := ⟨_, rfl⟩
   (try simp only [hbe])
   rw [hbe] at hz
   have HL5 : Hid (w0.heap.size ≤ b5) := Lib.hid (by rw [← hbe]; exact HBN.out.size)
   have HNE : Hid (b4 ≠ b5) := Lib.hid (by have := bx_lt HA4.out; omega)
   replace HG1 := Lib.hid (HG1.out.up hb)
   replace HG3 := Lib.hid (HG3.out.up hb)
   replace HA4 := Lib.hid ((hb.block _ (bx_lt HA4.out)).trans HA4.out)
   have HA5 := Lib.hid hz
   replace HBN := Lib.hid (below_step HBN.out hb)
   clear hb hz hbe
   have hzw : u3.alloc (.cells #[.int .i64 0, .slice none 0 0, .slice none 0 0, .slice none 0 0, .int .i64 0, .bool false, .slice none 0 0, .int .i64 0, .int .i64 0] 38) = u3.alloc (.cells zeroC 38) := rfl
   (try rw [hzw])
   clear hzw
   generalize u3.alloc (.cells zeroC 38) = u4 at *
   rotate_left 1
   go_simp
   refine hK.out _ _ (HS.out _ (below_alloc HBN.out _)) (fun _ => ?_)
   clear hK K
   (try simp only [Act.put, sA, sB, sC])
   have hb := below_alloc (Below.refl _ u2) (.cells zeroC 38)
   have hz : (u2.alloc (.cells zeroC 38)).heap[u2.heap.size]? = some (.cells zeroC 38 (0, 0)) := hpn _ rfl
   obtain ⟨b5, hbe⟩ : ∃ b, u2.heap.size = b := ⟨_, rfl⟩
   (try simp only [hbe])
   rw [hbe] at hz
   have HL5 : Hid (w0.heap.size ≤ b5) := Lib.hid (by rw [← hbe]; exact HBN.out.size)
   have HNE : Hid (b4 ≠ b5) := Lib.hid (by have := bx_lt HA4.out; omega)
   replace HG1 := Lib.hid (HG1.out.up hb)
   replace HA4 := Lib.hid ((hb.block _ (bx_lt HA4.out)).trans HA4.out)
   have HA5 := Lib.hid hz
   replace HBN := Lib.hid (below_step HBN.out hb)
   clear hb hz hbe
   have hzw : u2.alloc (.cells #[.int .i64 0, .slice none 0 0, .slice none 0 0, .slice none 0 0, .int .i64 0, .bool false, .slice none 0 0, .int .i64 0, .int .i64 0] 38) = u2.alloc (.cells zeroC 38) := rfl
   (try rw [hzw])
   clear hzw
   generalize u2.alloc (.cells zeroC 38) = u3 at *
   refine wpAnyH_ready (rs := [3]) (by kernel_rfl) (by simp) ?_
   refine (AllReadyH.cons (o := { dst := some 23, op := Op.call { callee := Callee.value (Operand.func 11), args := #[Operand.tmp 22], argTypes := #[27] }, type := 38, pos := "law.go:107", after := #[{ on := 2, ground := Ground.data }, { on := 1, ground := Ground.chain }], guard := none }) rfl (fun K hK => ?_) AllReadyH.nil)
   refine step_call_g rfl 11 _ _ #[.agg (x2.cells d0 d1 d2 k0 k1 k2)] rfl rfl (enters_of Tryz.func11 (by kernel_rfl) rfl) ((HM2.out u3 HBN.out).mono ?_)
   rintro e u4 ⟨y3, rfl, hG, hb⟩
   refine ⟨_, rfl, hK.out _ _ (HS.out _ (below_step HBN.out hb)) (fun _ => ?_)⟩
   clear hK K
   (try simp only [Act.put, sA, sB, sC])
   replace HG1 := Lib.hid (HG1.out.up hb)
   replace HA4 := Lib.hid ((hb.block _ (bx_lt HA4.out)).trans HA4.out)
   replace HA5 := Lib.hid ((hb.block _ (bx_lt HA5.out)).trans HA5.out)
   have HG3 := Lib.hid (hG.low HBN.out.size)
   replace HBN := Lib.hid (below_step HBN.out hb)
   clear hb hG
   rotate_left 1
   go_simp
   refine hK.out _ _ (HS.out _ (below_alloc HBN.out _)) (fun _ => ?_)
   clear hK K
   (try simp only [Act.put, sA, sB, sC])
   have hb := below_alloc (Below.refl _ u1) (.cells zeroC 38)
   have hz : (u1.alloc (.cells zeroC 38)).heap[u1.heap.size]? = some (.cells zeroC 38 (0, 0)) := hpn _ rfl
   obtain ⟨b5, hbe⟩ : ∃ b, u1.heap.size = b := ⟨_, rfl⟩
   (try simp only [hbe])
   rw [hbe] at hz
   have HL5 : Hid (w0.heap.size ≤ b5) := Lib.hid (by rw [← hbe]; exact HBN.out.size)
   have HNE : Hid (b4 ≠ b5) := Lib.hid (by have := bx_lt HA4.out; omega)
   replace HA4 := Lib.hid ((hb.block _ (bx_lt HA4.out)).trans HA4.out)
   have HA5 := Lib.hid hz
   replace HBN := Lib.hid (below_step HBN.out hb)
   clear hb hz hbe
   have hzw : u1.alloc (.cells #[.int .i64 0, .slice none 0 0, .slice none 0 0, .slice none 0 0, .int .i64 0, .bool false, .slice none 0 0, .int .i64 0, .int .i64 0] 38) = u1.alloc (.cells zeroC 38) := rfl
   (try rw [hzw])
   clear hzw
   generalize u1.alloc (.cells zeroC 38) = u2 at *
   refine wpAnyH_ready (rs := [1]) (by kernel_rfl) (by simp) ?_
   refine (AllReadyH.cons (o := { dst := some 21, op := Op.call { callee := Callee.value (Operand.func 11), args := #[Operand.tmp 20], argTypes := #[27] }, type := 38, pos := "law.go:107", after := #[{ on := 0, ground := Ground.data }], guard := none }) rfl (fun K hK => ?_) AllReadyH.nil)
   refine step_call_g rfl 11 _ _ #[.agg (x.cells a0 a1 a2 c0 c1 c2)] rfl rfl (enters_of Tryz.func11 (by kernel_rfl) rfl) ((HM1.out u2 HBN.out).mono ?_)
   rintro e u3 ⟨y1, rfl, hG, hb⟩
   refine ⟨_, rfl, hK.out _ _ (HS.out _ (below_step HBN.out hb)) (fun _ => ?_)⟩
   clear hK K
   (try simp only [Act.put, sA, sB, sC])
   replace HA4 := Lib.hid ((hb.block _ (bx_lt HA4.out)).trans HA4.out)
   replace HA5 := Lib.hid ((hb.block _ (bx_lt HA5.out)).trans HA5.out)
   have HG1 := Lib.hid (hG.low HBN.out.size)
   replace HBN := Lib.hid (below_step HBN.out hb)
   clear hb hG
   refine wpAnyH_ready (rs := [3]) (by kernel_rfl) (by simp) ?_
   refine (AllReadyH.cons (o := { dst := some 23, op := Op.call { callee := Callee.value (Operand.func 11), args := #[Operand.tmp 22], argTypes := #[27] }, type := 38, pos := "law.go:107", after := #[{ on := 2, ground := Ground.data }, { on := 1, ground := Ground.chain }], guard := none }) rfl (fun K hK => ?_) AllReadyH.nil)
   refine step_call_g rfl 11 _ _ #[.agg (x2.cells d0 d1 d2 k0 k1 k2)] rfl rfl (enters_of Tryz.func11 (by kernel_rfl) rfl) ((HM2.out u3 HBN.out).mono ?_)
   rintro e u4 ⟨y3, rfl, hG, hb⟩
   refine ⟨_, rfl, hK.out _ _ (HS.out _ (below_step HBN.out hb)) (fun _ => ?_)⟩
   clear hK K
   (try simp only [Act.put, sA, sB, sC])
   replace HG1 := Lib.hid (HG1.out.up hb)
   replace HA4 := Lib.hid ((hb.block _ (bx_lt HA4.out)).trans HA4.out)
   replace HA5 := Lib.hid ((hb.block _ (bx_lt HA5.out)).trans HA5.out)
   have HG3 := Lib.hid (hG.low HBN.out.size)
   replace HBN := Lib.hid (below_step HBN.out hb)
   clear hb hG
   rotate_left 1
   go_simp
   refine hK.out _ _ (HS.out _ (below_alloc HBN.out _)) (fun _ => ?_)
   clear hK K
   (try simp only [Act.put, sA, sB, sC])
   have hb := below_alloc (Below.refl _ u0) (.cells zeroC 38)
   have hz : (u0.alloc (.cells zeroC 38)).heap[u0.heap.size]? = some (.cells zeroC 38 (0, 0)) := hpn _ rfl
   obtain ⟨b5, hbe⟩ : ∃ b, u0.heap.size = b := ⟨_, rfl⟩
   (try simp only [hbe])
   rw [hbe] at hz
   have HL5 : Hid (w0.heap.size ≤ b5) := Lib.hid (by rw [← hbe]; exact HBN.out.size)
   have HA5 := Lib.hid hz
   replace HBN := Lib.hid (below_step HBN.out hb)
   clear hb hz hbe
   have hzw : u0.alloc (.cells #[.int .i64 0, .slice none 0 0, .slice none 0 0, .slice none 0 0, .int .i64 0, .bool false, .slice none 0 0, .int .i64 0, .int .i64 0] 38) = u0.alloc (.cells zeroC 38) := rfl
   (try rw [hzw])
   clear hzw
   generalize u0.alloc (.cells zeroC 38) = u1 at *
   refine wpAnyH_ready (rs := [1, 4]) (by kernel_rfl) (by simp) ?_
   refine (AllReadyH.cons (o := { dst := some 21, op := Op.call { callee := Callee.value (Operand.func 11), args := #[Operand.tmp 20], argTypes := #[27] }, type := 38, pos := "law.go:107", after := #[{ on := 0, ground := Ground.data }], guard := none }) rfl (fun K hK => ?_) (AllReadyH.cons (o := { dst := some 8, op := Op.alloc 38, type := 0, pos := "law.go:107", after := #[], guard := none }) rfl (fun K hK => ?_) AllReadyH.nil))
   refine step_call_g rfl 11 _ _ #[.agg (x.cells a0 a1 a2 c0 c1 c2)] rfl rfl (enters_of Tryz.func11 (by kernel_rfl) rfl) ((HM1.out u1 HBN.out).mono ?_)
   rintro e u2 ⟨y1, rfl, hG, hb⟩
   refine ⟨_, rfl, hK.out _ _ (HS.out _ (below_step HBN.out hb)) (fun _ => ?_)⟩
   clear hK K
   (try simp only [Act.put, sA, sB, sC])
   replace HA5 := Lib.hid ((hb.block _ (bx_lt HA5.out)).trans HA5.out)
   have HG1 := Lib.hid (hG.low HBN.out.size)
   replace HBN := Lib.hid (below_step HBN.out hb)
   clear hb hG
   refine wpAnyH_ready (rs := [3, 4]) (by kernel_rfl) (by simp) ?_
   refine (AllReadyH.cons (o := { dst := some 23, op := Op.call { callee := Callee.value (Operand.func 11), args := #[Operand.tmp 22], argTypes := #[27] }, type := 38, pos := "law.go:107", after := #[{ on := 2, ground := Ground.data }, { on := 1, ground := Ground.chain }], guard := none }) rfl (fun K hK => ?_) (AllReadyH.cons (o := { dst := some 8, op := Op.alloc 38, type := 0, pos := "law.go:107", after := #[], guard := none }) rfl (fun K hK => ?_) AllReadyH.nil))
   refine step_call_g rfl 11 _ _ #[.agg (x2.cells d0 d1 d2 k0 k1 k2)] rfl rfl (enters_of Tryz.func11 (by kernel_rfl) rfl) ((HM2.out u2 HBN.out).mono ?_)
   rintro e u3 ⟨y3, rfl, hG, hb⟩
   refine ⟨_, rfl, hK.out _ _ (HS.out _ (below_step HBN.out hb)) (fun _ => ?_)⟩
   clear hK K
   (try simp only [Act.put, sA, sB, sC])
   replace HG1 := Lib.hid (HG1.out.up hb)
   replace HA5 := Lib.hid ((hb.block _ (bx_lt HA5.out)).trans HA5.out)
   have HG3 := Lib.hid (hG.low HBN.out.size)
   replace HBN := Lib.hid (below_step HBN.out hb)
   clear hb hG
   refine wpAnyH_ready (rs := [4]) (by kernel_rfl) (by simp) ?_
   refine (AllReadyH.cons (o := { dst := some 8, op := Op.alloc 38, type := 0, pos := "law.go:107", after := #[], guard := none }) rfl (fun K hK => ?_) AllReadyH.nil)
   go_simp
   refine hK.out _ _ (HS.out _ (below_alloc HBN.out _)) (fun _ => ?_)
   clear hK K
   (try simp only [Act.put, sA, sB, sC])
   have hb := below_alloc (Below.refl _ u3) (.cells zeroC 38)
   have hz : (u3.alloc (.cells zeroC 38)).heap[u3.heap.size]? = some (.cells zeroC 38 (0, 0)) := hpn _ rfl
   obtain ⟨b4, hbe⟩ : ∃ b, u3.heap.size = b := ⟨_, rfl⟩
   (try simp only [hbe])
   rw [hbe] at hz
   have HL4 : Hid (w0.heap.size ≤ b4) := Lib.hid (by rw [← hbe]; exact HBN.out.size)
   have HNE : Hid (b4 ≠ b5) := Lib.hid (by have := bx_lt HA5.out; omega)
   replace HG1 := Lib.hid (HG1.out.up hb)
   replace HG3 := Lib.hid (HG3.out.up hb)
   replace HA5 := Lib.hid ((hb.block _ (bx_lt HA5.out)).trans HA5.out)
   have HA4 := Lib.hid hz
   replace HBN := Lib.hid (below_step HBN.out hb)
   clear hb hz hbe
   have hzw : u3.alloc (.cells #[.int .i64 0, .slice none 0 0, .slice none 0 0, .slice none 0 0, .int .i64 0, .bool false, .slice none 0 0, .int .i64 0, .int .i64 0] 38) = u3.alloc (.cells zeroC 38) := rfl
   (try rw [hzw])
   clear hzw
   generalize u3.alloc (.cells zeroC 38) = u4 at *
   rotate_left 1
   go_simp
   refine hK.out _ _ (HS.out _ (below_alloc HBN.out _)) (fun _ => ?_)
   clear hK K
   (try simp only [Act.put, sA, sB, sC])
   have hb := below_alloc (Below.refl _ u2) (.cells zeroC 38)
   have hz : (u2.alloc (.cells zeroC 38)).heap[u2.heap.size]? = some (.cells zeroC 38 (0, 0)) := hpn _ rfl
   obtain ⟨b4, hbe⟩ : ∃ b, u2.heap.size = b := ⟨_, rfl⟩
   (try simp only [hbe])
   rw [hbe] at hz
   have HL4 : Hid (w0.heap.size ≤ b4) := Lib.hid (by rw [← hbe]; exact HBN.out.size)
   have HNE : Hid (b4 ≠ b5) := Lib.hid (by have := bx_lt HA5.out; omega)
   replace HG1 := Lib.hid (HG1.out.up hb)
   replace HA5 := Lib.hid ((hb.block _ (bx_lt HA5.out)).trans HA5.out)
   have HA4 := Lib.hid hz
   replace HBN := Lib.hid (below_step HBN.out hb)
   clear hb hz hbe
   have hzw : u2.alloc (.cells #[.int .i64 0, .slice none 0 0, .slice none 0 0, .slice none 0 0, .int .i64 0, .bool false, .slice none 0 0, .int .i64 0, .int .i64 0] 38) = u2.alloc (.cells zeroC 38) := rfl
   (try rw [hzw])
   clear hzw
   generalize u2.alloc (.cells zeroC 38) = u3 at *
   refine wpAnyH_ready (rs := [3]) (by kernel_rfl) (by simp) ?_
   refine (AllReadyH.cons (o := { dst := some 23, op := Op.call { callee := Callee.value (Operand.func 11), args := #[Operand.tmp 22], argTypes := #[27] }, type := 38, pos := "law.go:107", after := #[{ on := 2, ground := Ground.data }, { on := 1, ground := Ground.chain }], guard := none }) rfl (fun K hK => ?_) AllReadyH.nil)
   refine step_call_g rfl 11 _ _ #[.agg (x2.cells d0 d1 d2 k0 k1 k2)] rfl rfl (enters_of Tryz.func11 (by kernel_rfl) rfl) ((HM2.out u3 HBN.out).mono ?_)
   rintro e u4 ⟨y3, rfl, hG, hb⟩
   refine ⟨_, rfl, hK.out _ _ (HS.out _ (below_step HBN.out hb)) (fun _ => ?_)⟩
   clear hK K
   (try simp only [Act.put, sA, sB, sC])
   replace HG1 := Lib.hid (HG1.out.up hb)
   replace HA4 := Lib.hid ((hb.block _ (bx_lt HA4.out)).trans HA4.out)
   replace HA5 := Lib.hid ((hb.block _ (bx_lt HA5.out)).trans HA5.out)
   have HG3 := Lib.hid (hG.low HBN.out.size)
   replace HBN := Lib.hid (below_step HBN.out hb)
   clear hb hG
   rotate_left 1
   go_simp
   refine hK.out _ _ (HS.out _ (below_alloc HBN.out _)) (fun _ => ?_)
   clear hK K
   (try simp only [Act.put, sA, sB, sC])
   have hb := below_alloc (Below.refl _ u1) (.cells zeroC 38)
   have hz : (u1.alloc (.cells zeroC 38)).heap[u1.heap.size]? = some (.cells zeroC 38 (0, 0)) := hpn _ rfl
   obtain ⟨b4, hbe⟩ : ∃ b, u1.heap.size = b := ⟨_, rfl⟩
   (try simp only [hbe])
   rw [hbe] at hz
   have HL4 : Hid (w0.heap.size ≤ b4) := Lib.hid (by rw [← hbe]; exact HBN.out.size)
   have HNE : Hid (b4 ≠ b5) := Lib.hid (by have := bx_lt HA5.out; omega)
   replace HA5 := Lib.hid ((hb.block _ (bx_lt HA5.out)).trans HA5.out)
   have HA4 := Lib.hid hz
   replace HBN := Lib.hid (below_step HBN.out hb)
   clear hb hz hbe
   have hzw : u1.alloc (.cells #[.int .i64 0, .slice none 0 0, .slice none 0 0, .slice none 0 0, .int .i64 0, .bool false, .slice none 0 0, .int .i64 0, .int .i64 0] 38) = u1.alloc (.cells zeroC 38) := rfl
   (try rw [hzw])
   clear hzw
   generalize u1.alloc (.cells zeroC 38) = u2 at *
   refine wpAnyH_ready (rs := [1]) (by kernel_rfl) (by simp) ?_
   refine (AllReadyH.cons (o := { dst := some 21, op := Op.call { callee := Callee.value (Operand.func 11), args := #[Operand.tmp 20], argTypes := #[27] }, type := 38, pos := "law.go:107", after := #[{ on := 0, ground := Ground.data }], guard := none }) rfl (fun K hK => ?_) AllReadyH.nil)
   refine step_call_g rfl 11 _ _ #[.agg (x.cells a0 a1 a2 c0 c1 c2)] rfl rfl (enters_of Tryz.func11 (by kernel_rfl) rfl) ((HM1.out u2 HBN.out).mono ?_)
   rintro e u3 ⟨y1, rfl, hG, hb⟩
   refine ⟨_, rfl, hK.out _ _ (HS.out _ (below_step HBN.out hb)) (fun _ => ?_)⟩
   clear hK K
   (try simp only [Act.put, sA, sB, sC])
   replace HA4 := Lib.hid ((hb.block _ (bx_lt HA4.out)).trans HA4.out)
   replace HA5 := Lib.hid ((hb.block _ (bx_lt HA5.out)).trans HA5.out)
   have HG1 := Lib.hid (hG.low HBN.out.size)
   replace HBN := Lib.hid (below_step HBN.out hb)
   clear hb hG
   refine wpAnyH_ready (rs := [3]) (by kernel_rfl) (by simp) ?_
   refine (AllReadyH.cons (o := { dst := some 23, op := Op.call { callee := Callee.value (Operand.func 11), args := #[Operand.tmp 22], argTypes := #[27] }, type := 38, pos := "law.go:107", after := #[{ on := 2, ground := Ground.data }, { on := 1, ground := Ground.chain }], guard := none }) rfl (fun K hK => ?_) AllReadyH.nil)
   refine step_call_g rfl 11 _ _ #[.agg (x2.cells d0 d1 d2 k0 k1 k2)] rfl rfl (enters_of Tryz.func11 (by kernel_rfl) rfl) ((HM2.out u3 HBN.out).mono ?_)
   rintro e u4 ⟨y3, rfl, hG, hb⟩
   refine ⟨_, rfl, hK.out _ _ (HS.out _ (below_step HBN.out hb)) (fun _ => ?_)⟩
   clear hK K
   (try simp only [Act.put, sA, sB, sC])
   replace HG1 := Lib.hid (HG1.out.up hb)
   replace HA4 := Lib.hid ((hb.block _ (bx_lt HA4.out)).trans HA4.out)
   replace HA5 := Lib.hid ((hb.block _ (bx_lt HA5.out)).trans HA5.out)
   have HG3 := Lib.hid (hG.low HBN.out.size)
   replace HBN := Lib.hid (below_step HBN.out hb)
   clear hb hG
   rotate_left 1
   all_goals
     refine wpAnyH_ready (rs := [6]) (by kernel_rfl) (by simp) ?_
     refine AllReadyH.cons (o := { dst := none, op := Op.store 38 (Operand.tmp 8) (Operand.tmp 21), type := 0, pos := "law.go:107", after := #[{ on := 4, ground := Ground.data }, { on := 1, ground := Ground.data }, { on := 3, ground := Ground.chain }, { on := 0, ground := Ground.phase }, { on := 1, ground := Ground.phase }, { on := 2, ground := Ground.textOnly Departure.lateStores }, { on := 3, ground := Ground.textOnly Departure.lateStoresUnsure }, { on := 4, ground := Ground.phase }, { on := 5, ground := Ground.phase }], guard := none }) rfl (fun K hK => ?_) AllReadyH.nil
     refine step_store_game rfl (.tmp 8) (.tmp 21) rfl b4 (madeD x) y1 rfl rfl zeroC HA4.out rfl ?_
     have hal := setRow_alt u4 b4 ((madeD x).cells y1)
     have hbs := HBN.out.trans (hal.below HBN.out.size (fun k hk => by have hk : k = b4 := hk; have := HL4.out; omega))
     refine hK.out _ _ (HS.out _ hbs) (fun _ => ?_)
     clear hK K
     (try simp only [Act.put])
     replace HBN := Lib.hid hbs
     replace HG1 := Lib.hid (HG1.out.off hal (fun k hk => by have hk : k = b4 := hk; subst hk; exact ⟨_, _, HA4.out⟩))
     replace HG3 := Lib.hid (HG3.out.off hal (fun k hk => by have hk : k = b4 := hk; subst hk; exact ⟨_, _, HA4.out⟩))
     have HB4 := Lib.hid (setRow_heap u4 b4 _ ((madeD x).cells y1) _ _ HA4.out)
     replace HA5 := Lib.hid ((hal.block b5 (bx_lt HA5.out) (fun e => HNE.out e.symm)).trans HA5.out)
     clear hal hbs
     generalize u4.setRow b4 ((madeD x).cells y1) = u5 at *
     refine wpAnyH_ready (rs := [7]) (by kernel_rfl) (by simp) ?_
     refine AllReadyH.cons (o := { dst := none, op := Op.store 38 (Operand.tmp 9) (Operand.tmp 23), type := 0, pos := "law.go:107", after := #[{ on := 5, ground := Ground.data }, { on := 3, ground := Ground.data }, { on := 6, ground := Ground.chain }, { on := 0, ground := Ground.phase }, { on := 1, ground := Ground.phase }, { on := 2, ground := Ground.phase }, { on := 3, ground := Ground.phase }, { on := 4, ground := Ground.phase }, { on := 5, ground := Ground.phase }, { on := 6, ground := Ground.phase }], guard := none }) rfl (fun K hK => ?_) AllReadyH.nil
     refine step_store_game rfl (.tmp 9) (.tmp 23) rfl b5 (madeD x2) y3 rfl rfl zeroC HA5.out rfl ?_
     have hal := setRow_alt u5 b5 ((madeD x2).cells y3)
     have hbs := HBN.out.trans (hal.below HBN.out.size (fun k hk => by have hk : k = b5 := hk; have := HL5.out; omega))
     refine hK.out _ _ (HS.out _ hbs) (fun _ => ?_)
     clear hK K
     (try simp only [Act.put])
     replace HBN := Lib.hid hbs
     replace HG1 := Lib.hid (HG1.out.off hal (fun k hk => by have hk : k = b5 := hk; subst hk; exact ⟨_, _, HA5.out⟩))
     replace HG3 := Lib.hid (HG3.out.off hal (fun k hk => by have hk : k = b5 := hk; subst hk; exact ⟨_, _, HA5.out⟩))
     have HB5 := Lib.hid (setRow_heap u5 b5 _ ((madeD x2).cells y3) _ _ HA5.out)
     replace HB4 := Lib.hid ((hal.block b4 (bx_lt HB4.out) (fun e => HNE.out e)).trans HB4.out)
     clear hal hbs
     generalize u5.setRow b5 ((madeD x2).cells y3) = u6 at *
     refine wpAnyH_done (by kernel_rfl) ?_ _
     have HT : Hid (TwoMade w0 x x2 b4 b5 y1 y3 u6) := Lib.hid ⟨HNE.out, HL4.out, HL5.out, HB4.out, HB5.out, HG1.out, HG3.out, HBN.out⟩
     go_wp2_with fail
     go_meet
     exact ⟨b4, b5, y1, y3, rfl, rfl, HT.out⟩
 case rest =>
   obtain ⟨b8, b9, y, y2, e8, e9, hT⟩ := hcut
   subst e8
   subst e9
   have HBC := Lib.hid (below_step HB0.out hT.b)
   have hg := hT.m8.game
   have hh := hT.m9.game
   have HX8 := Lib.hid hT.h8
   have HX9 := Lib.hid hT.h9
   have HG := Lib.hid hg
   have HH := Lib.hid hh
   clear hT hg hh HX1 HX2 HM1 HM2 HB0
   generalize madeD x = g at *
   generalize madeD x2 = h at *
   have HTX : Hid (printG g = writtenG g) := Lib.hid (print_valid HV1.out)
   have HTY : Hid (printG h = writtenG h) := Lib.hid (print_valid HV2.out)
   have HTL : Hid ((writtenG g).length ≤ 1000000) := Lib.hid (written_short HV1.out)
   have HPW := Lib.hid (parse_written HV1.out)
   have HIJ := Lib.hid (written_inj HV1.out HV2.out)
   have HP1 := Lib.hid (gprint_any g y wc.heap.size wc (Nat.le_refl _) HG.out (HL.out.up HBC.out) (HR.out.up HBC.out))
   rw [HTX.out] at HP1
   have HPG := Lib.hid (fun W (hW : Below w.heap.size w W) => gparse_any (writtenG g) HTL.out W (HL.out.up hW) (HR.out.up hW))
   have HPH : Hid (∀ W, Below wc.heap.size wc W → Calls Tryz.prog 15 #[.agg (h.cells y2)] W fun e w' => e = .returned (.string ⟨(writtenG h).toArray⟩) ∧ Below W.heap.size W w') := Lib.hid (fun W hW => by
     have := gprint_any h y2 wc.heap.size W hW.size (HH.out.up (Nat.le_refl _) hW) (HL.out.up (below_step HBC.out hW)) (HR.out.up (below_step HBC.out hW))
     rw [HTY.out] at this
     exact this)
   have HEB : Hid (∀ W, Below wc.heap.size wc W → Calls Tryz.prog 25 #[.agg (g.cells y), .agg (h.cells y2)] W fun e w' => e = .returned (.bool (eqG g h)) ∧ Below W.heap.size W w') := Lib.hid (fun W hW => gequal_any g h y y2 wc.heap.size W (mild_of HV1.out) (mild_of HV2.out) hW.size (HG.out.up (Nat.le_refl _) hW) (HH.out.up (Nat.le_refl _) hW))
   have HEA : Hid (∀ W N z, Below wc.heap.size wc W → N ≤ W.heap.size → GameIn N W z g → Calls Tryz.prog 25 #[.agg (g.cells z), .agg (g.cells y)] W fun e w' => e = .returned (.bool true) ∧ Below W.heap.size W w') := Lib.hid (fun W N z hW hN hz => by
     have := gequal_any g g z y W.heap.size W (mild_of HV1.out) (mild_of HV1.out) (Nat.le_refl _) (hz.mono hN) ((HG.out.up (Nat.le_refl _) hW).mono hW.size)
     rw [eqG_yes rfl] at this
     exact this)
   have HQE : Hid (∀ tg th : List UInt8, writtenG g = tg → writtenG h = th → (eqG g h = true ∧ tg = th) ∨ (eqG g h = false ∧ ¬ tg = th)) := Lib.hid (fun tg th e1 e2 => by
     rw [← e1, ← e2]
     by_cases e : g = h
     · exact .inl ⟨eqG_yes e, HIJ.out.2 e⟩
     · exact .inr ⟨eqG_no e, fun h => e (HIJ.out.1 h)⟩)
   have HSP := Lib.hid (fun W (hW : Below w.heap.size w W) => gparse_any s (by have := HSL.out; omega) W (HL.out.up hW) (HR.out.up hW))
   obtain ⟨tg, htg⟩ : ∃ tg, writtenG g = tg := ⟨_, rfl⟩
   obtain ⟨th, hth⟩ : ∃ th, writtenG h = th := ⟨_, rfl⟩
   have HQ2 := Lib.hid (HQE.out tg th htg hth)
   rw [htg] at HP1 HPG HPW
   rw [hth] at HPH
   clear HTX HTY HTL HIJ HQE htg hth
   generalize eqG g h = vb at *
   unfold GameD.cells at HX8 HX9 HP1 HPH HEB HEA
   have hx8 := HX8.out
   have q0 := bx_cell hx8 0 rfl
   have q1 := bx_cell hx8 1 rfl
   have q2 := bx_cell hx8 2 rfl
   have q3 := bx_cell hx8 3 rfl
   have q4 := bx_cell hx8 4 rfl
   have q5 := bx_cell hx8 5 rfl
   have q6 := bx_cell hx8 6 rfl
   have q7 := bx_cell hx8 7 rfl
   have q8 := bx_cell hx8 8 rfl
   clear hx8
   go_wp2_with fail
   refine HP1.out.mono ?_
   rintro e w5 ⟨rfl, hb5⟩
   clear q0 q1 q2 q3 q4 q5 q6 q7 q8 HP1
   have HB5 := Lib.hid hb5
   have HBW := Lib.hid (below_step HBC.out hb5)
   clear hb5
   have HPG5 := Lib.hid (HPG.out w5 HBW.out)
   go_wp2_with fail
   refine HPG5.out.mono ?_
   unfold GParsed
   rw [HPW.out.1, HPW.out.2]
   rintro e w6 ⟨z, rfl, hz, hb6⟩
   unfold GameD.cells
   clear HPG HPG5
   have hbE : Below w6.heap.size w6 (w6.alloc (.cells #[.int .i64 g.b.cells, .slice z.an g.b.next.length z.cn, .slice z.at_ g.b.turn.length z.ct, .slice z.ak g.kinds.length z.ck, .int .i64 g.rights, .bool g.must, .slice z.ac g.clauses.length z.cc, .int .i64 g.blocked, .int .i64 g.endless] 38)) := below_alloc (Below.refl _ _) _
   have hX11 : (w6.alloc (.cells #[.int .i64 g.b.cells, .slice z.an g.b.next.length z.cn, .slice z.at_ g.b.turn.length z.ct, .slice z.ak g.kinds.length z.ck, .int .i64 g.rights, .bool g.must, .slice z.ac g.clauses.length z.cc, .int .i64 g.blocked, .int .i64 g.endless] 38)).heap[w6.heap.size]? = some (.cells #[.int .i64 g.b.cells, .slice z.an g.b.next.length z.cn, .slice z.at_ g.b.turn.length z.ct, .slice z.ak g.kinds.length z.ck, .int .i64 g.rights, .bool g.must, .slice z.ac g.clauses.length z.cc, .int .i64 g.blocked, .int .i64 g.endless] 38 (0, 0)) := hpn _ rfl
   go_upto_region 7 with (fail)
   obtain ⟨q11, hq11⟩ : ∃ q, w6.heap.size = q := ⟨_, rfl⟩
   rw [hq11] at hX11
   (try simp only [hq11])
   have HZ := Lib.hid (hz.up (Nat.le_refl _) hbE)
   have HZN : Hid (w6.heap.size ≤ (w6.alloc (.cells #[.int .i64 g.b.cells, .slice z.an g.b.next.length z.cn, .slice z.at_ g.b.turn.length z.ct, .slice z.ak g.kinds.length z.ck, .int .i64 g.rights, .bool g.must, .slice z.ac g.clauses.length z.cc, .int .i64 g.blocked, .int .i64 g.endless] 38)).heap.size) := Lib.hid hbE.size
   have HB7 := Lib.hid (below_step HB5.out (below_step hb6 hbE))
   have HBV := Lib.hid (below_step HBW.out (below_step hb6 hbE))
   clear hq11 hz hb6 hbE HB5 HBW
   generalize w6.alloc (.cells #[.int .i64 g.b.cells, .slice z.an g.b.next.length z.cn, .slice z.at_ g.b.turn.length z.ct, .slice z.ak g.kinds.length z.ck, .int .i64 g.rights, .bool g.must, .slice z.ac g.clauses.length z.cc, .int .i64 g.blocked, .int .i64 g.endless] 38) = w7 at *
   have HC7 : Hid (BC3 w7 b8 b9 q11 _ _ _ w7) := Lib.hid ⟨Below.refl _ _, (HB7.out.block _ (bx_lt HX8.out)).trans HX8.out, (HB7.out.block _ (bx_lt HX9.out)).trans HX9.out, hX11⟩
   have HE1 : Hid (∀ W, Below w7.heap.size w7 W → Calls Tryz.prog 25 #[.agg #[.int .i64 g.b.cells, .slice z.an g.b.next.length z.cn, .slice z.at_ g.b.turn.length z.ct, .slice z.ak g.kinds.length z.ck, .int .i64 g.rights, .bool g.must, .slice z.ac g.clauses.length z.cc, .int .i64 g.blocked, .int .i64 g.endless], .agg #[.int .i64 g.b.cells, .slice y.an g.b.next.length y.cn, .slice y.at_ g.b.turn.length y.ct, .slice y.ak g.kinds.length y.ck, .int .i64 g.rights, .bool g.must, .slice y.ac g.clauses.length y.cc, .int .i64 g.blocked, .int .i64 g.endless]] W fun e w' => e = .returned (.bool true) ∧ Below W.heap.size W w') := Lib.hid (fun W hW => HEA.out W _ z (below_step HB7.out hW) (Nat.le_trans HZN.out hW.size) (HZ.out.up HZN.out hW))
   have HE2 := Lib.hid (fun W (hW : Below w7.heap.size w7 W) => HEB.out W (below_step HB7.out hW))
   have HE3 := Lib.hid (fun W (hW : Below w7.heap.size w7 W) => HPH.out W (below_step HB7.out hW))
   clear hX11 HX8 HX9 HEA HEB HPH HZ HZN HG HH
   refine wp_region_quiet (C := BC3 w7 b8 b9 q11 _ _ _) (by kernel_rfl) (by kernel_rfl) (HC7.out.up (Below.refl _ _).drew) ?_
   clear HC7
   dsimp only
   iterate 3
     refine wpQuiet_val (v := ?_) (by rfl) ?_ ?_
     rotate_left
     · ((intro W hW; (try cases hW); go_simp); try with_reducible rfl)
     (try simp only [Act.put, sA, sB, sC])
   refine wpQuiet_val (v := .agg #[.int .i64 g.b.cells, .slice z.an g.b.next.length z.cn, .slice z.at_ g.b.turn.length z.ct, .slice z.ak g.kinds.length z.ck, .int .i64 g.rights, .bool g.must, .slice z.ac g.clauses.length z.cc, .int .i64 g.blocked, .int .i64 g.endless]) (by rfl) (fun W hW => ?_) ?_
   · have q0 := bx_cell hW.h11 0 rfl
     have q1 := bx_cell hW.h11 1 rfl
     have q2 := bx_cell hW.h11 2 rfl
     have q3 := bx_cell hW.h11 3 rfl
     have q4 := bx_cell hW.h11 4 rfl
     have q5 := bx_cell hW.h11 5 rfl
     have q6 := bx_cell hW.h11 6 rfl
     have q7 := bx_cell hW.h11 7 rfl
     have q8 := bx_cell hW.h11 8 rfl
     go_simp
   (try simp only [Act.put, sA, sB, sC])
   refine wpQuiet_val (v := .agg #[.int .i64 g.b.cells, .slice y.an g.b.next.length y.cn, .slice y.at_ g.b.turn.length y.ct, .slice y.ak g.kinds.length y.ck, .int .i64 g.rights, .bool g.must, .slice y.ac g.clauses.length y.cc, .int .i64 g.blocked, .int .i64 g.endless]) (by rfl) (fun W hW => ?_) ?_
   · have q0 := bx_cell hW.h8 0 rfl
     have q1 := bx_cell hW.h8 1 rfl
     have q2 := bx_cell hW.h8 2 rfl
     have q3 := bx_cell hW.h8 3 rfl
     have q4 := bx_cell hW.h8 4 rfl
     have q5 := bx_cell hW.h8 5 rfl
     have q6 := bx_cell hW.h8 6 rfl
     have q7 := bx_cell hW.h8 7 rfl
     have q8 := bx_cell hW.h8 8 rfl
     go_simp
   (try simp only [Act.put, sA, sB, sC])
   refine wpQuiet_val (v := (.bool true)) (by rfl) (fun W hW => ?_) ?_
   · go_simp
     exact (HE1.out W hW.b).mono fun e w' ⟨he, hb⟩ => ⟨he, hW.up hb⟩
   (try simp only [Act.put, sA, sB, sC])
   iterate 4
     refine wpQuiet_val (v := ?_) (by rfl) ?_ ?_
     rotate_left
     · ((intro W hW; (try cases hW); go_simp); try with_reducible rfl)
     (try simp only [Act.put, sA, sB, sC])
   refine wpQuiet_val (v := .agg #[.int .i64 h.b.cells, .slice y2.an h.b.next.length y2.cn, .slice y2.at_ h.b.turn.length y2.ct, .slice y2.ak h.kinds.length y2.ck, .int .i64 h.rights, .bool h.must, .slice y2.ac h.clauses.length y2.cc, .int .i64 h.blocked, .int .i64 h.endless]) (by rfl) (fun W hW => ?_) ?_
   · have q0 := bx_cell hW.h9 0 rfl
     have q1 := bx_cell hW.h9 1 rfl
     have q2 := bx_cell hW.h9 2 rfl
     have q3 := bx_cell hW.h9 3 rfl
     have q4 := bx_cell hW.h9 4 rfl
     have q5 := bx_cell hW.h9 5 rfl
     have q6 := bx_cell hW.h9 6 rfl
     have q7 := bx_cell hW.h9 7 rfl
     have q8 := bx_cell hW.h9 8 rfl
     go_simp
   (try simp only [Act.put, sA, sB, sC])
   refine wpQuiet_val (v := (.string ⟨th.toArray⟩)) (by rfl) (fun W hW => ?_) ?_
   · go_simp
     exact (HE3.out W hW.b).mono fun e w' ⟨he, hb⟩ => ⟨he, hW.up hb⟩
   (try simp only [Act.put, sA, sB, sC])
   rcases HQ2.out with ⟨hv, he⟩ | ⟨hv, he⟩
   · subst hv
     subst he
     refine wpQuiet_val (v := ?_) (by rfl) ?_ ?_
     rotate_left
     · ((intro W hW; (try cases hW); go_simp); try with_reducible rfl)
     (try simp only [Act.put, sA, sB, sC])
     refine wpQuiet_val (v := .agg #[.int .i64 g.b.cells, .slice y.an g.b.next.length y.cn, .slice y.at_ g.b.turn.length y.ct, .slice y.ak g.kinds.length y.ck, .int .i64 g.rights, .bool g.must, .slice y.ac g.clauses.length y.cc, .int .i64 g.blocked, .int .i64 g.endless]) (by rfl) (fun W hW => ?_) ?_
     · have q0 := bx_cell hW.h8 0 rfl
       have q1 := bx_cell hW.h8 1 rfl
       have q2 := bx_cell hW.h8 2 rfl
       have q3 := bx_cell hW.h8 3 rfl
       have q4 := bx_cell hW.h8 4 rfl
       have q5 := bx_cell hW.h8 5 rfl
       have q6 := bx_cell hW.h8 6 rfl
       have q7 := bx_cell hW.h8 7 rfl
       have q8 := bx_cell hW.h8 8 rfl
       go_simp
     (try simp only [Act.put, sA, sB, sC])
     refine wpQuiet_val (v := .agg #[.int .i64 h.b.cells, .slice y2.an h.b.next.length y2.cn, .slice y2.at_ h.b.turn.length y2.ct, .slice y2.ak h.kinds.length y2.ck, .int .i64 h.rights, .bool h.must, .slice y2.ac h.clauses.length y2.cc, .int .i64 h.blocked, .int .i64 h.endless]) (by rfl) (fun W hW => ?_) ?_
     · have q0 := bx_cell hW.h9 0 rfl
       have q1 := bx_cell hW.h9 1 rfl
       have q2 := bx_cell hW.h9 2 rfl
       have q3 := bx_cell hW.h9 3 rfl
       have q4 := bx_cell hW.h9 4 rfl
       have q5 := bx_cell hW.h9 5 rfl
       have q6 := bx_cell hW.h9 6 rfl
       have q7 := bx_cell hW.h9 7 rfl
       have q8 := bx_cell hW.h9 8 rfl
       go_simp
     (try simp only [Act.put, sA, sB, sC])
     refine wpQuiet_val (v := (.bool true)) (by rfl) (fun W hW => ?_) ?_
     · go_simp
       exact (HE2.out W hW.b).mono fun e w' ⟨he, hb⟩ => ⟨he, hW.up hb⟩
     (try simp only [Act.put, sA, sB, sC])
     iterate 2
       refine wpQuiet_val (v := ?_) (by rfl) ?_ ?_
       rotate_left
       · ((intro W hW; (try cases hW); go_simp); try with_reducible rfl)
       (try simp only [Act.put, sA, sB, sC])
     refine wpQuiet_nil (fun w8 hW => ?_)
     have HB8 := Lib.hid (below_step HBV.out hW.b)
     clear hW HE1 HE2 HE3 HQ2 HPW
     have HSP8 := Lib.hid (HSP.out w8 HB8.out)
     go_wp2_with fail
     refine HSP8.out.mono ?_
     unfold GParsed
     clear HSP HSP8
     rcases parsed_cases s with ⟨e1, e2⟩ | ⟨hv, hp, e2⟩
     · rw [e1, e2]
       clear e1 e2
       rintro e w9 ⟨z3, rfl, hz, hb9⟩
       have hZC : zeroG.cells z3 = #[.int .i64 0, .slice z3.an 0 z3.cn, .slice z3.at_ 0 z3.ct, .slice z3.ak 0 z3.ck, .int .i64 0, .bool false, .slice z3.ac 0 z3.cc, .int .i64 0, .int .i64 0] := rfl
       rw [hZC]
       clear hZC
       have hbE : Below w9.heap.size w9 (w9.alloc (.cells #[.int .i64 0, .slice z3.an 0 z3.cn, .slice z3.at_ 0 z3.ct, .slice z3.ak 0 z3.ck, .int .i64 0, .bool false, .slice z3.ac 0 z3.cc, .int .i64 0, .int .i64 0] 38)) := below_alloc (Below.refl _ _) _
       have hX : (w9.alloc (.cells #[.int .i64 0, .slice z3.an 0 z3.cn, .slice z3.at_ 0 z3.ct, .slice z3.ak 0 z3.ck, .int .i64 0, .bool false, .slice z3.ac 0 z3.cc, .int .i64 0, .int .i64 0] 38)).heap[w9.heap.size]? = some (.cells #[.int .i64 0, .slice z3.an 0 z3.cn, .slice z3.at_ 0 z3.ct, .slice z3.ak 0 z3.ck, .int .i64 0, .bool false, .slice z3.ac 0 z3.cc, .int .i64 0, .int .i64 0] 38 (0, 0)) := hpn _ rfl
       go_upto_region 10 with (fail)
       have HE : Hid (Calls Tryz.prog 25 #[.agg #[.int .i64 0, .slice z3.an 0 z3.cn, .slice z3.at_ 0 z3.ct, .slice z3.ak 0 z3.ck, .int .i64 0, .bool false, .slice z3.ac 0 z3.cc, .int .i64 0, .int .i64 0], .agg #[.int .i64 0, .slice none 0 0, .slice none 0 0, .slice none 0 0, .int .i64 0, .bool false, .slice none 0 0, .int .i64 0, .int .i64 0]] (w9.alloc (.cells #[.int .i64 0, .slice z3.an 0 z3.cn, .slice z3.at_ 0 z3.ct, .slice z3.ak 0 z3.ck, .int .i64 0, .bool false, .slice z3.ac 0 z3.cc, .int .i64 0, .int .i64 0] 38)) fun e w' => e = .returned (.bool true) ∧ Below (w9.alloc (.cells #[.int .i64 0, .slice z3.an 0 z3.cn, .slice z3.at_ 0 z3.ct, .slice z3.ak 0 z3.ck, .int .i64 0, .bool false, .slice z3.ac 0 z3.cc, .int .i64 0, .int .i64 0] 38)).heap.size (w9.alloc (.cells #[.int .i64 0, .slice z3.an 0 z3.cn, .slice z3.at_ 0 z3.ct, .slice z3.ak 0 z3.ck, .int .i64 0, .bool false, .slice z3.ac 0 z3.cc, .int .i64 0, .int .i64 0] 38)) w') := Lib.hid (by
         have := gequal_any zeroG zeroG z3 ⟨none, 0, none, 0, none, 0, none, 0⟩ w9.heap.size (w9.alloc (.cells #[.int .i64 0, .slice z3.an 0 z3.cn, .slice z3.at_ 0 z3.ct, .slice z3.ak 0 z3.ck, .int .i64 0, .bool false, .slice z3.ac 0 z3.cc, .int .i64 0, .int .i64 0] 38)) mild_zero mild_zero hbE.size (hz.up (Nat.le_refl _) hbE) (zero_in _ _)
         rw [eqG_yes rfl] at this
         exact this)
       have HB9 := Lib.hid (below_step HB8.out (below_step hb9 hbE))
       clear hz hb9 hbE
       obtain ⟨q13, hq13⟩ : ∃ q, w9.heap.size = q := ⟨_, rfl⟩
       rw [hq13] at hX
       (try simp only [hq13])
       clear hq13
       generalize w9.alloc (.cells #[.int .i64 0, .slice z3.an 0 z3.cn, .slice z3.at_ 0 z3.ct, .slice z3.ak 0 z3.ck, .int .i64 0, .bool false, .slice z3.ac 0 z3.cc, .int .i64 0, .int .i64 0] 38) = w10 at *
       have q0 := bx_cell hX 0 rfl
       have q1 := bx_cell hX 1 rfl
       have q2 := bx_cell hX 2 rfl
       have q3 := bx_cell hX 3 rfl
       have q4 := bx_cell hX 4 rfl
       have q5 := bx_cell hX 5 rfl
       have q6 := bx_cell hX 6 rfl
       have q7 := bx_cell hX 7 rfl
       have q8 := bx_cell hX 8 rfl
       clear hX
       go_wp2_with fail
       refine HE.out.mono ?_
       rintro e w11 ⟨rfl, hb11⟩
       have HBZ := Lib.hid (below_step HB9.out hb11)
       clear hb11 q0 q1 q2 q3 q4 q5 q6 q7 q8 HE
       go_wp2
       go_ret
       exact ⟨by first | rfl | simp, HBZ.out⟩
     · rw [e2]
       clear e2
       generalize parsedG s = c at *
       rintro e w9 ⟨z3, rfl, hz, hb9⟩
       unfold GameD.cells
       have hbE : Below w9.heap.size w9 (w9.alloc (.cells #[.int .i64 c.b.cells, .slice z3.an c.b.next.length z3.cn, .slice z3.at_ c.b.turn.length z3.ct, .slice z3.ak c.kinds.length z3.ck, .int .i64 c.rights, .bool c.must, .slice z3.ac c.clauses.length z3.cc, .int .i64 c.blocked, .int .i64 c.endless] 38)) := below_alloc (Below.refl _ _) _
       have hX : (w9.alloc (.cells #[.int .i64 c.b.cells, .slice z3.an c.b.next.length z3.cn, .slice z3.at_ c.b.turn.length z3.ct, .slice z3.ak c.kinds.length z3.ck, .int .i64 c.rights, .bool c.must, .slice z3.ac c.clauses.length z3.cc, .int .i64 c.blocked, .int .i64 c.endless] 38)).heap[w9.heap.size]? = some (.cells #[.int .i64 c.b.cells, .slice z3.an c.b.next.length z3.cn, .slice z3.at_ c.b.turn.length z3.ct, .slice z3.ak c.kinds.length z3.ck, .int .i64 c.rights, .bool c.must, .slice z3.ac c.clauses.length z3.cc, .int .i64 c.blocked, .int .i64 c.endless] 38 (0, 0)) := hpn _ rfl
       go_upto_region 10 with (fail)
       have HB9 := Lib.hid (below_step HB8.out (below_step hb9 hbE))
       have HCV : Hid (∀ W, Below (w9.alloc (.cells #[.int .i64 c.b.cells, .slice z3.an c.b.next.length z3.cn, .slice z3.at_ c.b.turn.length z3.ct, .slice z3.ak c.kinds.length z3.ck, .int .i64 c.rights, .bool c.must, .slice z3.ac c.clauses.length z3.cc, .int .i64 c.blocked, .int .i64 c.endless] 38)).heap.size (w9.alloc (.cells #[.int .i64 c.b.cells, .slice z3.an c.b.next.length z3.cn, .slice z3.at_ c.b.turn.length z3.ct, .slice z3.ak c.kinds.length z3.ck, .int .i64 c.rights, .bool c.must, .slice z3.ac c.clauses.length z3.cc, .int .i64 c.blocked, .int .i64 c.endless] 38)) W → Calls Tryz.prog 24 #[.agg #[.int .i64 c.b.cells, .slice z3.an c.b.next.length z3.cn, .slice z3.at_ c.b.turn.length z3.ct, .slice z3.ak c.kinds.length z3.ck, .int .i64 c.rights, .bool c.must, .slice z3.ac c.clauses.length z3.cc, .int .i64 c.blocked, .int .i64 c.endless]] W fun e w' => e = .returned (.bool true) ∧ Below W.heap.size W w') := Lib.hid (fun W hW => by
         have := gvalid_any c z3 W.heap.size W (Nat.le_refl _) (((hz.up (Nat.le_refl _) hbE).mono hbE.size |>.up (Nat.le_refl _) hW).mono hW.size) (HL.out.up (below_step HB9.out hW)).signs
         rw [hv] at this
         exact this)
       have HCP : Hid (∀ W, Below (w9.alloc (.cells #[.int .i64 c.b.cells, .slice z3.an c.b.next.length z3.cn, .slice z3.at_ c.b.turn.length z3.ct, .slice z3.ak c.kinds.length z3.ck, .int .i64 c.rights, .bool c.must, .slice z3.ac c.clauses.length z3.cc, .int .i64 c.blocked, .int .i64 c.endless] 38)).heap.size (w9.alloc (.cells #[.int .i64 c.b.cells, .slice z3.an c.b.next.length z3.cn, .slice z3.at_ c.b.turn.length z3.ct, .slice z3.ak c.kinds.length z3.ck, .int .i64 c.rights, .bool c.must, .slice z3.ac c.clauses.length z3.cc, .int .i64 c.blocked, .int .i64 c.endless] 38)) W → Calls Tryz.prog 15 #[.agg #[.int .i64 c.b.cells, .slice z3.an c.b.next.length z3.cn, .slice z3.at_ c.b.turn.length z3.ct, .slice z3.ak c.kinds.length z3.ck, .int .i64 c.rights, .bool c.must, .slice z3.ac c.clauses.length z3.cc, .int .i64 c.blocked, .int .i64 c.endless]] W fun e w' => e = .returned (.string ⟨s.toArray⟩) ∧ Below W.heap.size W w') := Lib.hid (fun W hW => by
         have := gprint_any c z3 W.heap.size W (Nat.le_refl _) (((hz.up (Nat.le_refl _) hbE).mono hbE.size |>.up (Nat.le_refl _) hW).mono hW.size) (HL.out.up (below_step HB9.out hW)) (HR.out.up (below_step HB9.out hW))
         rw [hp] at this
         exact this)
       clear hz hb9 hbE hv hp
       obtain ⟨q13, hq13⟩ : ∃ q, w9.heap.size = q := ⟨_, rfl⟩
       rw [hq13] at hX
       (try simp only [hq13])
       clear hq13
       generalize w9.alloc (.cells #[.int .i64 c.b.cells, .slice z3.an c.b.next.length z3.cn, .slice z3.at_ c.b.turn.length z3.ct, .slice z3.ak c.kinds.length z3.ck, .int .i64 c.rights, .bool c.must, .slice z3.ac c.clauses.length z3.cc, .int .i64 c.blocked, .int .i64 c.endless] 38) = w10 at *
       have HX := Lib.hid hX
       have q0 := bx_cell hX 0 rfl
       have q1 := bx_cell hX 1 rfl
       have q2 := bx_cell hX 2 rfl
       have q3 := bx_cell hX 3 rfl
       have q4 := bx_cell hX 4 rfl
       have q5 := bx_cell hX 5 rfl
       have q6 := bx_cell hX 6 rfl
       have q7 := bx_cell hX 7 rfl
       have q8 := bx_cell hX 8 rfl
       clear hX
       have HCV1 := Lib.hid (HCV.out w10 (Below.refl _ _))
       go_wp2_with fail
       refine HCV1.out.mono ?_
       rintro e w11 ⟨rfl, hb11⟩
       clear q0 q1 q2 q3 q4 q5 q6 q7 q8 HCV HCV1
       have hX := (hb11.block _ (bx_lt HX.out)).trans HX.out
       have HCP1 := Lib.hid (HCP.out w11 hb11)
       have HB11 := Lib.hid (below_step HB9.out hb11)
       clear hb11
       have q0 := bx_cell hX 0 rfl
       have q1 := bx_cell hX 1 rfl
       have q2 := bx_cell hX 2 rfl
       have q3 := bx_cell hX 3 rfl
       have q4 := bx_cell hX 4 rfl
       have q5 := bx_cell hX 5 rfl
       have q6 := bx_cell hX 6 rfl
       have q7 := bx_cell hX 7 rfl
       have q8 := bx_cell hX 8 rfl
       clear hX
       go_wp2_with fail
       refine HCP1.out.mono ?_
       rintro e w12 ⟨rfl, hb12⟩
       have HBZ := Lib.hid (below_step HB11.out hb12)
       clear hb12 q0 q1 q2 q3 q4 q5 q6 q7 q8 HCP HCP1 HX
       go_wp2
       go_ret
       exact ⟨by first | rfl | simp, HBZ.out⟩
   · subst hv
     have u1 : (tg == th) = false := by simpa using he
     have u2 : decide (tg = th) = false := by simpa using he
     clear he
     refine wpQuiet_val (v := ?_) (by rfl) ?_ ?_
     rotate_left
     · ((intro W hW; (try cases hW); go_simp); try with_reducible rfl)
     (try simp only [Act.put, sA, sB, sC])
     refine wpQuiet_val (v := .agg #[.int .i64 g.b.cells, .slice y.an g.b.next.length y.cn, .slice y.at_ g.b.turn.length y.ct, .slice y.ak g.kinds.length y.ck, .int .i64 g.rights, .bool g.must, .slice y.ac g.clauses.length y.cc, .int .i64 g.blocked, .int .i64 g.endless]) (by rfl) (fun W hW => ?_) ?_
     · have q0 := bx_cell hW.h8 0 rfl
       have q1 := bx_cell hW.h8 1 rfl
       have q2 := bx_cell hW.h8 2 rfl
       have q3 := bx_cell hW.h8 3 rfl
       have q4 := bx_cell hW.h8 4 rfl
       have q5 := bx_cell hW.h8 5 rfl
       have q6 := bx_cell hW.h8 6 rfl
       have q7 := bx_cell hW.h8 7 rfl
       have q8 := bx_cell hW.h8 8 rfl
       go_simp
     (try simp only [Act.put, sA, sB, sC])
     refine wpQuiet_val (v := .agg #[.int .i64 h.b.cells, .slice y2.an h.b.next.length y2.cn, .slice y2.at_ h.b.turn.length y2.ct, .slice y2.ak h.kinds.length y2.ck, .int .i64 h.rights, .bool h.must, .slice y2.ac h.clauses.length y2.cc, .int .i64 h.blocked, .int .i64 h.endless]) (by rfl) (fun W hW => ?_) ?_
     · have q0 := bx_cell hW.h9 0 rfl
       have q1 := bx_cell hW.h9 1 rfl
       have q2 := bx_cell hW.h9 2 rfl
       have q3 := bx_cell hW.h9 3 rfl
       have q4 := bx_cell hW.h9 4 rfl
       have q5 := bx_cell hW.h9 5 rfl
       have q6 := bx_cell hW.h9 6 rfl
       have q7 := bx_cell hW.h9 7 rfl
       have q8 := bx_cell hW.h9 8 rfl
       go_simp
     (try simp only [Act.put, sA, sB, sC])
     refine wpQuiet_val (v := (.bool false)) (by rfl) (fun W hW => ?_) ?_
     · go_simp
       exact (HE2.out W hW.b).mono fun e w' ⟨he, hb⟩ => ⟨he, hW.up hb⟩
     (try simp only [Act.put, sA, sB, sC])
     iterate 2
       refine wpQuiet_val (v := ?_) (by rfl) ?_ ?_
       rotate_left
       · ((intro W hW; (try cases hW); go_simp); try with_reducible rfl)
       (try simp only [Act.put, sA, sB, sC])
     refine wpQuiet_nil (fun w8 hW => ?_)
     have HB8 := Lib.hid (below_step HBV.out hW.b)
     clear hW HE1 HE2 HE3 HQ2 HPW u1 u2
     have HSP8 := Lib.hid (HSP.out w8 HB8.out)
     go_wp2_with fail
     refine HSP8.out.mono ?_
     unfold GParsed
     clear HSP HSP8
     rcases parsed_cases s with ⟨e1, e2⟩ | ⟨hv, hp, e2⟩
     · rw [e1, e2]
       clear e1 e2
       rintro e w9 ⟨z3, rfl, hz, hb9⟩
       have hZC : zeroG.cells z3 = #[.int .i64 0, .slice z3.an 0 z3.cn, .slice z3.at_ 0 z3.ct, .slice z3.ak 0 z3.ck, .int .i64 0, .bool false, .slice z3.ac 0 z3.cc, .int .i64 0, .int .i64 0] := rfl
       rw [hZC]
       clear hZC
       have hbE : Below w9.heap.size w9 (w9.alloc (.cells #[.int .i64 0, .slice z3.an 0 z3.cn, .slice z3.at_ 0 z3.ct, .slice z3.ak 0 z3.ck, .int .i64 0, .bool false, .slice z3.ac 0 z3.cc, .int .i64 0, .int .i64 0] 38)) := below_alloc (Below.refl _ _) _
       have hX : (w9.alloc (.cells #[.int .i64 0, .slice z3.an 0 z3.cn, .slice z3.at_ 0 z3.ct, .slice z3.ak 0 z3.ck, .int .i64 0, .bool false, .slice z3.ac 0 z3.cc, .int .i64 0, .int .i64 0] 38)).heap[w9.heap.size]? = some (.cells #[.int .i64 0, .slice z3.an 0 z3.cn, .slice z3.at_ 0 z3.ct, .slice z3.ak 0 z3.ck, .int .i64 0, .bool false, .slice z3.ac 0 z3.cc, .int .i64 0, .int .i64 0] 38 (0, 0)) := hpn _ rfl
       go_upto_region 10 with (fail)
       have HE : Hid (Calls Tryz.prog 25 #[.agg #[.int .i64 0, .slice z3.an 0 z3.cn, .slice z3.at_ 0 z3.ct, .slice z3.ak 0 z3.ck, .int .i64 0, .bool false, .slice z3.ac 0 z3.cc, .int .i64 0, .int .i64 0], .agg #[.int .i64 0, .slice none 0 0, .slice none 0 0, .slice none 0 0, .int .i64 0, .bool false, .slice none 0 0, .int .i64 0, .int .i64 0]] (w9.alloc (.cells #[.int .i64 0, .slice z3.an 0 z3.cn, .slice z3.at_ 0 z3.ct, .slice z3.ak 0 z3.ck, .int .i64 0, .bool false, .slice z3.ac 0 z3.cc, .int .i64 0, .int .i64 0] 38)) fun e w' => e = .returned (.bool true) ∧ Below (w9.alloc (.cells #[.int .i64 0, .slice z3.an 0 z3.cn, .slice z3.at_ 0 z3.ct, .slice z3.ak 0 z3.ck, .int .i64 0, .bool false, .slice z3.ac 0 z3.cc, .int .i64 0, .int .i64 0] 38)).heap.size (w9.alloc (.cells #[.int .i64 0, .slice z3.an 0 z3.cn, .slice z3.at_ 0 z3.ct, .slice z3.ak 0 z3.ck, .int .i64 0, .bool false, .slice z3.ac 0 z3.cc, .int .i64 0, .int .i64 0] 38)) w') := Lib.hid (by
         have := gequal_any zeroG zeroG z3 ⟨none, 0, none, 0, none, 0, none, 0⟩ w9.heap.size (w9.alloc (.cells #[.int .i64 0, .slice z3.an 0 z3.cn, .slice z3.at_ 0 z3.ct, .slice z3.ak 0 z3.ck, .int .i64 0, .bool false, .slice z3.ac 0 z3.cc, .int .i64 0, .int .i64 0] 38)) mild_zero mild_zero hbE.size (hz.up (Nat.le_refl _) hbE) (zero_in _ _)
         rw [eqG_yes rfl] at this
         exact this)
       have HB9 := Lib.hid (below_step HB8.out (below_step hb9 hbE))
       clear hz hb9 hbE
       obtain ⟨q13, hq13⟩ : ∃ q, w9.heap.size = q := ⟨_, rfl⟩
       rw [hq13] at hX
       (try simp only [hq13])
       clear hq13
       generalize w9.alloc (.cells #[.int .i64 0, .slice z3.an 0 z3.cn, .slice z3.at_ 0 z3.ct, .slice z3.ak 0 z3.ck, .int .i64 0, .bool false, .slice z3.ac 0 z3.cc, .int .i64 0, .int .i64 0] 38) = w10 at *
       have q0 := bx_cell hX 0 rfl
       have q1 := bx_cell hX 1 rfl
       have q2 := bx_cell hX 2 rfl
       have q3 := bx_cell hX 3 rfl
       have q4 := bx_cell hX 4 rfl
       have q5 := bx_cell hX 5 rfl
       have q6 := bx_cell hX 6 rfl
       have q7 := bx_cell hX 7 rfl
       have q8 := bx_cell hX 8 rfl
       clear hX
       go_wp2_with fail
       refine HE.out.mono ?_
       rintro e w11 ⟨rfl, hb11⟩
       have HBZ := Lib.hid (below_step HB9.out hb11)
       clear hb11 q0 q1 q2 q3 q4 q5 q6 q7 q8 HE
       go_wp2
       go_ret
       exact ⟨by first | rfl | simp, HBZ.out⟩
     · rw [e2]
       clear e2
       generalize parsedG s = c at *
       rintro e w9 ⟨z3, rfl, hz, hb9⟩
       unfold GameD.cells
       have hbE : Below w9.heap.size w9 (w9.alloc (.cells #[.int .i64 c.b.cells, .slice z3.an c.b.next.length z3.cn, .slice z3.at_ c.b.turn.length z3.ct, .slice z3.ak c.kinds.length z3.ck, .int .i64 c.rights, .bool c.must, .slice z3.ac c.clauses.length z3.cc, .int .i64 c.blocked, .int .i64 c.endless] 38)) := below_alloc (Below.refl _ _) _
       have hX : (w9.alloc (.cells #[.int .i64 c.b.cells, .slice z3.an c.b.next.length z3.cn, .slice z3.at_ c.b.turn.length z3.ct, .slice z3.ak c.kinds.length z3.ck, .int .i64 c.rights, .bool c.must, .slice z3.ac c.clauses.length z3.cc, .int .i64 c.blocked, .int .i64 c.endless] 38)).heap[w9.heap.size]? = some (.cells #[.int .i64 c.b.cells, .slice z3.an c.b.next.length z3.cn, .slice z3.at_ c.b.turn.length z3.ct, .slice z3.ak c.kinds.length z3.ck, .int .i64 c.rights, .bool c.must, .slice z3.ac c.clauses.length z3.cc, .int .i64 c.blocked, .int .i64 c.endless] 38 (0, 0)) := hpn _ rfl
       go_upto_region 10 with (fail)
       have HB9 := Lib.hid (below_step HB8.out (below_step hb9 hbE))
       have HCV : Hid (∀ W, Below (w9.alloc (.cells #[.int .i64 c.b.cells, .slice z3.an c.b.next.length z3.cn, .slice z3.at_ c.b.turn.length z3.ct, .slice z3.ak c.kinds.length z3.ck, .int .i64 c.rights, .bool c.must, .slice z3.ac c.clauses.length z3.cc, .int .i64 c.blocked, .int .i64 c.endless] 38)).heap.size (w9.alloc (.cells #[.int .i64 c.b.cells, .slice z3.an c.b.next.length z3.cn, .slice z3.at_ c.b.turn.length z3.ct, .slice z3.ak c.kinds.length z3.ck, .int .i64 c.rights, .bool c.must, .slice z3.ac c.clauses.length z3.cc, .int .i64 c.blocked, .int .i64 c.endless] 38)) W → Calls Tryz.prog 24 #[.agg #[.int .i64 c.b.cells, .slice z3.an c.b.next.length z3.cn, .slice z3.at_ c.b.turn.length z3.ct, .slice z3.ak c.kinds.length z3.ck, .int .i64 c.rights, .bool c.must, .slice z3.ac c.clauses.length z3.cc, .int .i64 c.blocked, .int .i64 c.endless]] W fun e w' => e = .returned (.bool true) ∧ Below W.heap.size W w') := Lib.hid (fun W hW => by
         have := gvalid_any c z3 W.heap.size W (Nat.le_refl _) (((hz.up (Nat.le_refl _) hbE).mono hbE.size |>.up (Nat.le_refl _) hW).mono hW.size) (HL.out.up (below_step HB9.out hW)).signs
         rw [hv] at this
         exact this)
       have HCP : Hid (∀ W, Below (w9.alloc (.cells #[.int .i64 c.b.cells, .slice z3.an c.b.next.length z3.cn, .slice z3.at_ c.b.turn.length z3.ct, .slice z3.ak c.kinds.length z3.ck, .int .i64 c.rights, .bool c.must, .slice z3.ac c.clauses.length z3.cc, .int .i64 c.blocked, .int .i64 c.endless] 38)).heap.size (w9.alloc (.cells #[.int .i64 c.b.cells, .slice z3.an c.b.next.length z3.cn, .slice z3.at_ c.b.turn.length z3.ct, .slice z3.ak c.kinds.length z3.ck, .int .i64 c.rights, .bool c.must, .slice z3.ac c.clauses.length z3.cc, .int .i64 c.blocked, .int .i64 c.endless] 38)) W → Calls Tryz.prog 15 #[.agg #[.int .i64 c.b.cells, .slice z3.an c.b.next.length z3.cn, .slice z3.at_ c.b.turn.length z3.ct, .slice z3.ak c.kinds.length z3.ck, .int .i64 c.rights, .bool c.must, .slice z3.ac c.clauses.length z3.cc, .int .i64 c.blocked, .int .i64 c.endless]] W fun e w' => e = .returned (.string ⟨s.toArray⟩) ∧ Below W.heap.size W w') := Lib.hid (fun W hW => by
         have := gprint_any c z3 W.heap.size W (Nat.le_refl _) (((hz.up (Nat.le_refl _) hbE).mono hbE.size |>.up (Nat.le_refl _) hW).mono hW.size) (HL.out.up (below_step HB9.out hW)) (HR.out.up (below_step HB9.out hW))
         rw [hp] at this
         exact this)
       clear hz hb9 hbE hv hp
       obtain ⟨q13, hq13⟩ : ∃ q, w9.heap.size = q := ⟨_, rfl⟩
       rw [hq13] at hX
       (try simp only [hq13])
       clear hq13
       generalize w9.alloc (.cells #[.int .i64 c.b.cells, .slice z3.an c.b.next.length z3.cn, .slice z3.at_ c.b.turn.length z3.ct, .slice z3.ak c.kinds.length z3.ck, .int .i64 c.rights, .bool c.must, .slice z3.ac c.clauses.length z3.cc, .int .i64 c.blocked, .int .i64 c.endless] 38) = w10 at *
       have HX := Lib.hid hX
       have q0 := bx_cell hX 0 rfl
       have q1 := bx_cell hX 1 rfl
       have q2 := bx_cell hX 2 rfl
       have q3 := bx_cell hX 3 rfl
       have q4 := bx_cell hX 4 rfl
       have q5 := bx_cell hX 5 rfl
       have q6 := bx_cell hX 6 rfl
       have q7 := bx_cell hX 7 rfl
       have q8 := bx_cell hX 8 rfl
       clear hX
       have HCV1 := Lib.hid (HCV.out w10 (Below.refl _ _))
       go_wp2_with fail
       refine HCV1.out.mono ?_
       rintro e w11 ⟨rfl, hb11⟩
       clear q0 q1 q2 q3 q4 q5 q6 q7 q8 HCV HCV1
       have hX := (hb11.block _ (bx_lt HX.out)).trans HX.out
       have HCP1 := Lib.hid (HCP.out w11 hb11)
       have HB11 := Lib.hid (below_step HB9.out hb11)
       clear hb11
       have q0 := bx_cell hX 0 rfl
       have q1 := bx_cell hX 1 rfl
       have q2 := bx_cell hX 2 rfl
       have q3 := bx_cell hX 3 rfl
       have q4 := bx_cell hX 4 rfl
       have q5 := bx_cell hX 5 rfl
       have q6 := bx_cell hX 6 rfl
       have q7 := bx_cell hX 7 rfl
       have q8 := bx_cell hX 8 rfl
       clear hX
       go_wp2_with fail
       refine HCP1.out.mono ?_
       rintro e w12 ⟨rfl, hb12⟩
       have HBZ := Lib.hid (below_step HB11.out hb12)
       clear hb12 q0 q1 q2 q3 q4 q5 q6 q7 q8 HCP HCP1 HX
       go_wp2
       go_ret
       exact ⟨by first | rfl | simp, HBZ.out⟩
end Go.Proofs.YtbmcngoeinginaaGreatDoor
