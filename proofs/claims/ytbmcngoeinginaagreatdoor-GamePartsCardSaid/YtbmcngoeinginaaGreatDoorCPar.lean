/-
 GameParts of the laws.
-/
import Derived.Test.YtbmcngoeinginaaGreatDoorCTwo
import Derived.Test.YtbmcngoeinginaaGreatDoorKMadeV
import Derived.Test.YtbmcngoeinginaaGreatDoorCSpF
import Derived.Test.YtbmcngoeinginaaGreatDoorCParA
namespace Go.Proofs.YtbmcngoeinginaaGreatDoor
open Go Go.RowKit Go.Lib
attribute [local irreducible] Go.wpQuiet
theorem info_raw3 : (Tryz.prog.info? 27).map (·.size) = some 12 := by kernel_rfl
theorem info_a3 : (Tryz.prog.info? 53).map (·.size) = some 3 := by kernel_rfl
theorem lit_made {g : GameD} (h : validG g = true) : Lit g := by
 have B := validG_bounds h
 exact ⟨B.kinds.1, B.kinds.2, fun k hk => by have := (B.kind k hk).2; omega, by have := B.clauses; omega, by have := B.turn; omega, by have := B.cells; omega⟩
structure PaC (w : World) (gb kb ko pb po : Nat) (v1 v3 v4 vk vp : Value) (W : World) : Prop where
 b : Below w.heap.size w W
 g1 : W.cell? ⟨gb, 1, none⟩ = some v1
 g3 : W.cell? ⟨gb, 3, none⟩ = some v3
 g4 : W.cell? ⟨gb, 4, none⟩ = some v4
 k1 : W.cell? ⟨kb, ko, none⟩ = some vk
 p0 : W.cell? ⟨pb, po, none⟩ = some vp
theorem PaC.up {w W W' : World} {gb kb ko pb po : Nat} {v1 v3 v4 vk vp : Value} (h : PaC w gb kb ko pb po v1 v3 v4 vk vp W) (hb : Below W.heap.size W W') : PaC w gb kb ko pb po v1 v3 v4 vk vp W' :=
 ⟨below_step h.b hb, cell_keep hb h.g1, cell_keep hb h.g3, cell_keep hb h.g4, cell_keep hb h.k1, cell_keep hb h.p0⟩
structure PcC (w : World) (gb cb co : Nat) (v0 v4 u0 u2 : Value) (W : World) : Prop where
 b : Below w.heap.size w W
 g0 : W.cell? ⟨gb, 0, none⟩ = some v0
 g6 : W.cell? ⟨gb, 6, none⟩ = some v4
 c0 : W.cell? ⟨cb, co, none⟩ = some u0
 c2 : W.cell? ⟨cb, co + 2, none⟩ = some u2
theorem PcC.up {w W W' : World} {gb cb co : Nat} {v0 v4 u0 u2 : Value} (h : PcC w gb cb co v0 v4 u0 u2 W) (hb : Below W.heap.size W W') : PcC w gb cb co v0 v4 u0 u2 W' :=
 ⟨below_step h.b hb, cell_keep hb h.g0, cell_keep hb h.g6, cell_keep hb h.c0, cell_keep hb h.c2⟩
theorem all_take {α : Type} (p : α → Bool) (l : List α) (q : Nat) (h : q < l.length) : (l.take (q + 1)).all p = ((l.take q).all p && p (l[q]'h)) := by
 rw [List.take_add_one, List.getElem?_eq_getElem h, List.all_append]
 simp
set_option maxRecDepth 100000 in
set_option maxHeartbeats 6000000 in
theorem par_any (x x2 : GRaw) (a0 a1 a2 d0 d1 d2 : Option Addr) (c0 c1 c2 k0 k1 k2 N : Nat) (a b c : Int) (w : World) (ha : -128 ≤ a ∧ a ≤ 127) (hbb : -128 ≤ b ∧ b ≤ 127) (hcc : -128 ≤ c ∧ c ≤ 127) (hN : N ≤ w.heap.size) (hI : GRawIn N w a0 a1 a2 x) (hJ : GRawIn N w d0 d1 d2 x2) (hL : LibIn w) (hR : ResIn w) :
   Calls Tryz.prog 8 #[.agg (x.cells a0 a1 a2 c0 c1 c2), .agg (x2.cells d0 d1 d2 k0 k1 k2), .agg #[.int .i8 a, .int .i8 b, .int .i8 c]] w fun e w' => e = .returned (.bool true) ∧ Below w.heap.size w w' := by
 have hbA : Below w.heap.size w (((w.alloc (.cells (x.cells a0 a1 a2 c0 c1 c2) 27)).alloc (.cells (x2.cells d0 d1 d2 k0 k1 k2) 27)).alloc (.cells #[.int .i8 a, .int .i8 b, .int .i8 c] 53)) := below_alloc (below_alloc (below_alloc (Below.refl _ w) _) _) _
 have hx1 : (((w.alloc (.cells (x.cells a0 a1 a2 c0 c1 c2) 27)).alloc (.cells (x2.cells d0 d1 d2 k0 k1 k2) 27)).alloc (.cells #[.int .i8 a, .int .i8 b, .int .i8 c] 53)).heap[w.heap.size]? = some (.cells (x.cells a0 a1 a2 c0 c1 c2) 27 (0, 0)) := hpo (hpo (hpn _ rfl))
 have hx2 : (((w.alloc (.cells (x.cells a0 a1 a2 c0 c1 c2) 27)).alloc (.cells (x2.cells d0 d1 d2 k0 k1 k2) 27)).alloc (.cells #[.int .i8 a, .int .i8 b, .int .i8 c] 53)).heap[w.heap.size + 1]? = some (.cells (x2.cells d0 d1 d2 k0 k1 k2) 27 (0, 0)) := hpo (hpn _ (by simp))
 have hx3 : (((w.alloc (.cells (x.cells a0 a1 a2 c0 c1 c2) 27)).alloc (.cells (x2.cells d0 d1 d2 k0 k1 k2) 27)).alloc (.cells #[.int .i8 a, .int .i8 b, .int .i8 c] 53)).heap[w.heap.size + 1 + 1]? = some (.cells #[.int .i8 a, .int .i8 b, .int .i8 c] 53 (0, 0)) := hpn _ (by simp)
 have HSA := Lib.hid (fun W (h : Below w.heap.size w W) => sanity_any W (hL.up h) (hR.up h))
 have HMA := Lib.hid (fun W (h : Below w.heap.size w W) => made_at x a0 a1 a2 c0 c1 c2 N W (Nat.le_trans hN h.size) (hI.up hN h))
 have HMB := Lib.hid (fun W (h : Below w.heap.size w W) => made_at x2 d0 d1 d2 k0 k1 k2 N W (Nat.le_trans hN h.size) (hJ.up hN h))
 have HV1 := Lib.hid (made_valid hI)
 have HLI := Lib.hid (lit_made (made_valid hI))
 have HL := Lib.hid hL
 clear hL hR hI hJ hN
 go_enter Tryz.func8, Tryz.ntmps8
 go_upto_region 1 with (fail)
 generalize ((w.alloc (.cells (x.cells a0 a1 a2 c0 c1 c2) 27)).alloc (.cells (x2.cells d0 d1 d2 k0 k1 k2) 27)).alloc (.cells #[.int .i8 a, .int .i8 b, .int .i8 c] 53) = w1 at *
 go_wp2_with fail
 refine (HSA.out w1 hbA).mono ?_
 rintro e ws ⟨rfl, hb2⟩
 have HX1 := Lib.hid ((hb2.block _ (bx_lt hx1)).trans hx1)
 have HX2 := Lib.hid ((hb2.block _ (bx_lt hx2)).trans hx2)
 have HX3 := Lib.hid ((hb2.block _ (bx_lt hx3)).trans hx3)
 have HB0 := Lib.hid (below_step hbA hb2)
 clear hx1 hx2 hx3 hbA hb2 HSA
 have HM1 := Lib.hid (fun W (h : Below ws.heap.size ws W) => HMA.out W (below_step HB0.out h))
 go_upto_region 2 with (fail)
 go_cut [8, 18, 19, 20, 21] (fun s8 _s18 _s19 _s20 _s21 wx => ∃ b8 z, s8 = .pointer (some ⟨b8, 0, none⟩) ∧ wx.heap[b8]? = some (.cells ((spoiltS (madeD x) a b c).cells z) 38 (0, 0)) ∧ GameIn wx.heap.size wx z (spoiltS (madeD x) a b c) ∧ Below ws.heap.size ws wx)
 case first =>
   clear HV1 HL HB0 HMA HMB HX2
   have HS : Hid (∀ W, Below ws.heap.size ws W → W.heap[w.heap.size]? = some (.cells (x.cells a0 a1 a2 c0 c1 c2) 27 (0, 0)) ∧ W.heap[w.heap.size + 1 + 1]? = some (.cells #[.int .i8 a, .int .i8 b, .int .i8 c] 53 (0, 0))) := Lib.hid (fun W h => ⟨(h.block _ (bx_lt HX1.out)).trans HX1.out, (h.block _ (bx_lt HX3.out)).trans HX3.out⟩)
   refine wp_region_held_drew (S := fun W => W.heap[w.heap.size]? = some (.cells (x.cells a0 a1 a2 c0 c1 c2) 27 (0, 0)) ∧ W.heap[w.heap.size + 1 + 1]? = some (.cells #[.int .i8 a, .int .i8 b, .int .i8 c] 53 (0, 0))) (by kernel_rfl) (HS.out _ (Below.refl _ ws).drew) (fun hHeld => ?_)
   have HBN := Lib.hid (Below.refl ws.heap.size ws).drew
   generalize ws.drew = u0 at *
   refine wpAnyH_take (i := 0) (oi := { dst := some 18, op := Op.load 27 (Operand.tmp 3), type := 27, pos := "law.go:207", after := #[], guard := none }) (v := .agg (x.cells a0 a1 a2 c0 c1 c2).toList.toArray) rfl (by kernel_rfl) (by kernel_rfl) (by kernel_rfl) (fun _ _ _ h => h) (yieldsIf_load_mid rfl 27 (.tmp 3) rfl w.heap.size 0 rfl (x.cells a0 a1 a2 c0 c1 c2).toList _ (fun W hW => range_of_box hW.1) Tryz.underlying27 rfl info_raw3) (by assumption) ?_
   (try simp only [Act.put, sA, sB, sC])
   refine wpAnyH_take (i := 2) (oi := { dst := some 20, op := Op.load 53 (Operand.tmp 5), type := 53, pos := "law.go:207", after := #[], guard := none }) (v := .agg #[.int .i8 a, .int .i8 b, .int .i8 c]) rfl (by kernel_rfl) (by kernel_rfl) (by kernel_rfl) (fun _ _ _ h => h) (yieldsIf_load_mid rfl 53 (.tmp 5) rfl (w.heap.size + 1 + 1) 0 rfl [.int .i8 a, .int .i8 b, .int .i8 c] _ (fun W hW => range_of_box hW.2) Tryz.underlying53 rfl info_a3) (by assumption) ?_
   (try simp only [Act.put, sA, sB, sC])
   (try rw [Array.toArray_toList])
   clear hHeld
   refine wpAnyH_ready (rs := [1, 4]) (by kernel_rfl) (by simp) ?_
   refine (AllReadyH.cons (o := { dst := some 19, op := Op.call { callee := Callee.value (Operand.func 11), args := #[Operand.tmp 18], argTypes := #[27] }, type := 38, pos := "law.go:207", after := #[{ on := 0, ground := Ground.data }], guard := none }) rfl (fun K hK => ?_) (AllReadyH.cons (o := { dst := some 8, op := Op.alloc 38, type := 0, pos := "law.go:207", after := #[], guard := none }) rfl (fun K hK => ?_) AllReadyH.nil))
   refine step_call_g rfl 11 _ _ #[.agg (x.cells a0 a1 a2 c0 c1 c2)] rfl rfl (enters_of Tryz.func11 (by kernel_rfl) rfl) ((HM1.out u0 HBN.out).mono ?_)
   rintro e u1 ⟨y1, rfl, hG, hb⟩
   refine ⟨_, rfl, hK.out _ _ (HS.out _ (below_step HBN.out hb)) (fun _ => ?_)⟩
   clear hK K
   (try simp only [Act.put, sA, sB, sC])
   have HG1 := Lib.hid hG
   replace HBN := Lib.hid (below_step HBN.out hb)
   clear hb hG
   refine wpAnyH_ready (rs := [3, 4]) (by kernel_rfl) (by simp) ?_
   refine (AllReadyH.cons (o := { dst := some 21, op := Op.call { callee := Callee.value (Operand.func 22), args := #[Operand.tmp 19, Operand.tmp 20], argTypes := #[38, 53] }, type := 38, pos := "law.go:207", after := #[{ on := 1, ground := Ground.data }, { on := 2, ground := Ground.data }, { on := 1, ground := Ground.chain }], guard := none }) rfl (fun K hK => ?_) (AllReadyH.cons (o := { dst := some 8, op := Op.alloc 38, type := 0, pos := "law.go:207", after := #[], guard := none }) rfl (fun K hK => ?_) AllReadyH.nil))
   have HSF := Lib.hid (spoilt_far (fun _ => False) (madeD x) y1 a b c u1 (fun k hk => hk.elim) HLI.out ha hbb hcc (fun V hV => (HG1.out.off hV (fun k hk => hk.elim)).game))
   refine step_call_g rfl 22 _ _ #[.agg ((madeD x).cells y1), .agg #[.int .i8 a, .int .i8 b, .int .i8 c]] rfl rfl (enters_of Tryz.func22 (by kernel_rfl) rfl) (HSF.out.mono ?_)
   rintro e u2 ⟨z, rfl, hR3, hb⟩
   refine ⟨_, rfl, hK.out _ _ (HS.out _ (below_step HBN.out hb)) (fun _ => ?_)⟩
   clear hK K HSF
   (try simp only [Act.put, sA, sB, sC])
   have HR0 : Hid (∀ V, Alters (fun _ => False) u2 V → GameIn V.heap.size V z (spoiltS (madeD x) a b c)) := Lib.hid hR3
   replace HBN := Lib.hid (below_step HBN.out hb)
   clear hb hR3
   refine wpAnyH_ready (rs := [4]) (by kernel_rfl) (by simp) ?_
   refine (AllReadyH.cons (o := { dst := some 8, op := Op.alloc 38, type := 0, pos := "law.go:207", after := #[], guard := none }) rfl (fun K hK => ?_) AllReadyH.nil)
   go_simp
   refine hK.out _ _ (HS.out _ (below_alloc HBN.out _)) (fun _ => ?_)
   clear hK K
   (try simp only [Act.put, sA, sB, sC])
   have hb := below_alloc (Below.refl _ u2) (.cells zeroC 38)
   have hz : (u2.alloc (.cells zeroC 38)).heap[u2.heap.size]? = some (.cells zeroC 38 (0, 0)) := hpn _ rfl
   obtain ⟨b4, hbe⟩ : ∃ b, u2.heap.size = b := ⟨_, rfl⟩
   (try simp only [hbe])
   rw [hbe] at hz
   have HL4 : Hid (ws.heap.size ≤ b4) := Lib.hid (by rw [← hbe]; exact HBN.out.size)
   have HR3 : Hid (∀ V, Alters (fun k => k = b4) (u2.alloc (.cells zeroC 38)) V → GameIn V.heap.size V z (spoiltS (madeD x) a b c)) := Lib.hid (fun V hV => HR0.out V (((Alters.of_below hb).trans hV).mono (fun k hk h => by have h : k = b4 := h; omega)))
   have HA4 := Lib.hid hz
   replace HBN := Lib.hid (below_step HBN.out hb)
   clear hb hz hbe
   have hzw : u2.alloc (.cells #[.int .i64 0, .slice none 0 0, .slice none 0 0, .slice none 0 0, .int .i64 0, .bool false, .slice none 0 0, .int .i64 0, .int .i64 0] 38) = u2.alloc (.cells zeroC 38) := rfl
   (try rw [hzw])
   clear hzw
   generalize u2.alloc (.cells zeroC 38) = u3 at *
   rotate_left 1
   go_simp
   refine hK.out _ _ (HS.out _ (below_alloc HBN.out _)) (fun _ => ?_)
   clear hK K
   (try simp only [Act.put, sA, sB, sC])
   have hb := below_alloc (Below.refl _ u1) (.cells zeroC 38)
   have hz : (u1.alloc (.cells zeroC 38)).heap[u1.heap.size]? = some (.cells zeroC 38 (0, 0)) := hpn _ rfl
   obtain ⟨b4, hbe⟩ : ∃ b, u1.heap.size = b := ⟨_, rfl⟩
   (try simp only [hbe])
   rw [hbe] at hz
   have HL4 : Hid (ws.heap.size ≤ b4) := Lib.hid (by rw [← hbe]; exact HBN.out.size)
   replace HG1 := Lib.hid (HG1.out.up hb)
   have HA4 := Lib.hid hz
   replace HBN := Lib.hid (below_step HBN.out hb)
   clear hb hz hbe
   have hzw : u1.alloc (.cells #[.int .i64 0, .slice none 0 0, .slice none 0 0, .slice none 0 0, .int .i64 0, .bool false, .slice none 0 0, .int .i64 0, .int .i64 0] 38) = u1.alloc (.cells zeroC 38) := rfl
   (try rw [hzw])
   clear hzw
   generalize u1.alloc (.cells zeroC 38) = u2 at *
   refine wpAnyH_ready (rs := [3]) (by kernel_rfl) (by simp) ?_
   refine (AllReadyH.cons (o := { dst := some 21, op := Op.call { callee := Callee.value (Operand.func 22), args := #[Operand.tmp 19, Operand.tmp 20], argTypes := #[38, 53] }, type := 38, pos := "law.go:207", after := #[{ on := 1, ground := Ground.data }, { on := 2, ground := Ground.data }, { on := 1, ground := Ground.chain }], guard := none }) rfl (fun K hK => ?_) AllReadyH.nil)
   have HSF := Lib.hid (spoilt_far (fun k => k = b4) (madeD x) y1 a b c u2 (fun k hk => by have hk : k = b4 := hk; rw [hk]; exact bx_lt HA4.out) HLI.out ha hbb hcc (fun V hV => (HG1.out.off hV (fun k hk => by have hk : k = b4 := hk; rw [hk]; exact ⟨_, _, HA4.out⟩)).game))
   refine step_call_g rfl 22 _ _ #[.agg ((madeD x).cells y1), .agg #[.int .i8 a, .int .i8 b, .int .i8 c]] rfl rfl (enters_of Tryz.func22 (by kernel_rfl) rfl) (HSF.out.mono ?_)
   rintro e u3 ⟨z, rfl, hR3, hb⟩
   refine ⟨_, rfl, hK.out _ _ (HS.out _ (below_step HBN.out hb)) (fun _ => ?_)⟩
   clear hK K HSF
   (try simp only [Act.put, sA, sB, sC])
   have HR3 : Hid (∀ V, Alters (fun k => k = b4) u3 V → GameIn V.heap.size V z (spoiltS (madeD x) a b c)) := Lib.hid hR3
   replace HA4 := Lib.hid ((hb.block _ (bx_lt HA4.out)).trans HA4.out)
   replace HBN := Lib.hid (below_step HBN.out hb)
   clear hb hR3
   rotate_left 1
   go_simp
   refine hK.out _ _ (HS.out _ (below_alloc HBN.out _)) (fun _ => ?_)
   clear hK K
   (try simp only [Act.put, sA, sB, sC])
   have hb := below_alloc (Below.refl _ u0) (.cells zeroC 38)
   have hz : (u0.alloc (.cells zeroC 38)).heap[u0.heap.size]? = some (.cells zeroC 38 (0, 0)) := hpn _ rfl
   obtain ⟨b4, hbe⟩ : ∃ b, u0.heap.size = b := ⟨_, rfl⟩
   (try simp only [hbe])
   rw [hbe] at hz
   have HL4 : Hid (ws.heap.size ≤ b4) := Lib.hid (by rw [← hbe]; exact HBN.out.size)
   have HA4 := Lib.hid hz
   replace HBN := Lib.hid (below_step HBN.out hb)
   clear hb hz hbe
   have hzw : u0.alloc (.cells #[.int .i64 0, .slice none 0 0, .slice none 0 0, .slice none 0 0, .int .i64 0, .bool false, .slice none 0 0, .int .i64 0, .int .i64 0] 38) = u0.alloc (.cells zeroC 38) := rfl
   (try rw [hzw])
   clear hzw
   generalize u0.alloc (.cells zeroC 38) = u1 at *
   refine wpAnyH_ready (rs := [1]) (by kernel_rfl) (by simp) ?_
   refine (AllReadyH.cons (o := { dst := some 19, op := Op.call { callee := Callee.value (Operand.func 11), args := #[Operand.tmp 18], argTypes := #[27] }, type := 38, pos := "law.go:207", after := #[{ on := 0, ground := Ground.data }], guard := none }) rfl (fun K hK => ?_) AllReadyH.nil)
   refine step_call_g rfl 11 _ _ #[.agg (x.cells a0 a1 a2 c0 c1 c2)] rfl rfl (enters_of Tryz.func11 (by kernel_rfl) rfl) ((HM1.out u1 HBN.out).mono ?_)
   rintro e u2 ⟨y1, rfl, hG, hb⟩
   refine ⟨_, rfl, hK.out _ _ (HS.out _ (below_step HBN.out hb)) (fun _ => ?_)⟩
   clear hK K
   (try simp only [Act.put, sA, sB, sC])
   have HG1 := Lib.hid hG
   replace HA4 := Lib.hid ((hb.block _ (bx_lt HA4.out)).trans HA4.out)
   replace HBN := Lib.hid (below_step HBN.out hb)
   clear hb hG
   refine wpAnyH_ready (rs := [3]) (by kernel_rfl) (by simp) ?_
   refine (AllReadyH.cons (o := { dst := some 21, op := Op.call { callee := Callee.value (Operand.func 22), args := #[Operand.tmp 19, Operand.tmp 20], argTypes := #[38, 53] }, type := 38, pos := "law.go:207", after := #[{ on := 1, ground := Ground.data }, { on := 2, ground := Ground.data }, { on := 1, ground := Ground.chain }], guard := none }) rfl (fun K hK => ?_) AllReadyH.nil)
   have HSF := Lib.hid (spoilt_far (fun k => k = b4) (madeD x) y1 a b c u2 (fun k hk => by have hk : k = b4 := hk; rw [hk]; exact bx_lt HA4.out) HLI.out ha hbb hcc (fun V hV => (HG1.out.off hV (fun k hk => by have hk : k = b4 := hk; rw [hk]; exact ⟨_, _, HA4.out⟩)).game))
   refine step_call_g rfl 22 _ _ #[.agg ((madeD x).cells y1), .agg #[.int .i8 a, .int .i8 b, .int .i8 c]] rfl rfl (enters_of Tryz.func22 (by kernel_rfl) rfl) (HSF.out.mono ?_)
   rintro e u3 ⟨z, rfl, hR3, hb⟩
   refine ⟨_, rfl, hK.out _ _ (HS.out _ (below_step HBN.out hb)) (fun _ => ?_)⟩
   clear hK K HSF
   (try simp only [Act.put, sA, sB, sC])
   have HR3 : Hid (∀ V, Alters (fun k => k = b4) u3 V → GameIn V.heap.size V z (spoiltS (madeD x) a b c)) := Lib.hid hR3
   replace HA4 := Lib.hid ((hb.block _ (bx_lt HA4.out)).trans HA4.out)
   replace HBN := Lib.hid (below_step HBN.out hb)
   clear hb hR3
   rotate_left 1
   all_goals
     refine wpAnyH_ready (rs := [5]) (by kernel_rfl) (by simp) ?_
     refine AllReadyH.cons (o := { dst := none, op := Op.store 38 (Operand.tmp 8) (Operand.tmp 21), type := 0, pos := "law.go:207", after := #[{ on := 4, ground := Ground.data }, { on := 3, ground := Ground.data }, { on := 3, ground := Ground.chain }, { on := 0, ground := Ground.phase }, { on := 1, ground := Ground.phase }, { on := 2, ground := Ground.phase }, { on := 3, ground := Ground.phase }, { on := 4, ground := Ground.phase }], guard := none }) rfl (fun K hK => ?_) AllReadyH.nil
     refine step_store_game rfl (.tmp 8) (.tmp 21) rfl b4 (spoiltS (madeD x) a b c) z rfl rfl zeroC HA4.out rfl ?_
     have hal := setRow_alt u3 b4 ((spoiltS (madeD x) a b c).cells z)
     have hbs := HBN.out.trans (hal.below HBN.out.size (fun k hk => by have hk : k = b4 := hk; have := HL4.out; omega))
     refine hK.out _ _ (HS.out _ hbs) (fun _ => ?_)
     clear hK K
     (try simp only [Act.put])
     have HB4 := Lib.hid (setRow_heap u3 b4 _ ((spoiltS (madeD x) a b c).cells z) _ _ HA4.out)
     have HGI := Lib.hid (HR3.out _ hal)
     replace HBN := Lib.hid hbs
     clear hal hbs
     generalize u3.setRow b4 ((spoiltS (madeD x) a b c).cells z) = u4 at *
     refine wpAnyH_done (by kernel_rfl) ?_ _
     go_wp2_with fail
     go_meet
     exact ⟨b4, z, rfl, HB4.out, HGI.out, HBN.out⟩
 case rest =>
   obtain ⟨b8, z, e8, hx8, hg, hbx⟩ := hcut
   subst e8
   replace HX1 := Lib.hid ((hbx.block _ (bx_lt HX1.out)).trans HX1.out)
   replace HX2 := Lib.hid ((hbx.block _ (bx_lt HX2.out)).trans HX2.out)
   replace HB0 := Lib.hid (below_step HB0.out hbx)
   clear HX3 HM1 hbx ha hbb hcc HLI
   generalize spoiltS (madeD x) a b c = s at *
   have HX8 := Lib.hid hx8
   have HG8 := Lib.hid hg
   clear hx8 hg
   generalize wc = we at *
   clear ws
   unfold GameD.cells at HX8
   go_upto_region 3 with (fail)
   have hx8 := HX8.out
   have q0 := bx_cell hx8 0 rfl
   have q1 := bx_cell hx8 1 rfl
   have q2 := bx_cell hx8 2 rfl
   have q3 := bx_cell hx8 3 rfl
   have q4 := bx_cell hx8 4 rfl
   have q5 := bx_cell hx8 5 rfl
   have q6 := bx_cell hx8 6 rfl
   have q7 := bx_cell hx8 7 rfl
   have q8 := bx_cell hx8 8 rfl
   clear hx8
   have HVS := Lib.hid (gvalid_any s z we.heap.size we (Nat.le_refl _) HG8.out (HL.out.up HB0.out).signs)
   go_wp2_with fail
   refine HVS.out.mono ?_
   rintro e w4 ⟨rfl, hb4⟩
   clear HVS q0 q1 q2 q3 q4 q5 q6 q7 q8
   have HB4 := Lib.hid hb4
   clear hb4
   obtain ⟨vb, hvb⟩ : ∃ vb, validG s = vb := ⟨_, rfl⟩
   rw [hvb]
   have HVB := Lib.hid hvb
   clear hvb
   go_upto_if 23 with (fail)
   go_cut [9, 10] from 24 to 65 (fun _s9 _s10 wx => Below we.heap.size we wx)
   case first =>
     clear HV1 HMA HMB HX1 HX2
     have hpo := @parts_of s
     have HPO := Lib.hid hpo
     clear hpo
     cases vb with
     | false =>
       go_wp2_with fail
       go_meet
       exact HB4.out
     | true =>
       have HPS := Lib.hid (HPO.out HVB.out);have HBD := Lib.hid (validG_bounds HVB.out);clear HVB HPO;have hx8 := (HB4.out.block _ (bx_lt HX8.out)).trans HX8.out;have hn4 := HB4.out.size;have HG4 := Lib.hid (HG8.out.up (Nat.le_refl _) HB4.out)
       have HBV : Hid (Calls Tryz.prog 26 #[.agg #[.int .i64 s.b.cells, .slice z.an s.b.next.length z.cn, .slice z.at_ s.b.turn.length z.ct]] w4 fun e w' => e = .returned (.bool true) ∧ Below w4.heap.size w4 w') := Lib.hid (by
         have := bvalid_all s.b z.an z.at_ z.cn z.ct we.heap.size w4 hn4 HG4.out.board;rw [HPS.out.1] at this;exact this)
       have q0 := bx_cell hx8 0 rfl;have q1 := bx_cell hx8 1 rfl;have q2 := bx_cell hx8 2 rfl;have q3 := bx_cell hx8 3 rfl;have q4 := bx_cell hx8 4 rfl;have q5 := bx_cell hx8 5 rfl;have q6 := bx_cell hx8 6 rfl;have q7 := bx_cell hx8 7 rfl;have q8 := bx_cell hx8 8 rfl;clear hx8
       go_wp2_with fail
       refine HBV.out.mono ?_;rintro e w5 ⟨rfl, hb5⟩;clear HBV q0 q1 q2 q3 q4 q5 q6 q7 q8;have hx8 := (hb5.block _ (bx_lt (((HB4.out.block _ (bx_lt HX8.out)).trans HX8.out)))).trans ((HB4.out.block _ (bx_lt HX8.out)).trans HX8.out);have HX5 := Lib.hid hx8;have HG5 := Lib.hid (HG4.out.up hn4 hb5);have HN5 : Hid (we.heap.size ≤ w5.heap.size) := Lib.hid (Nat.le_trans hn4 hb5.size);have HB5 := Lib.hid (below_step HB4.out hb5);clear hx8 hn4 hb5 HG4 HB4 HX8 HG8;have hkl : s.kinds.length ≤ 6 := HBD.out.kinds.2;have q3 := bx_cell HX5.out 3 rfl;go_wp2;clear q3
       go_loopw [9] (fun i wr => ∃ q : Nat, q ≤ s.kinds.length ∧ i = .int .i64 (q : Int) ∧ Hid (Below w5.heap.size w5 wr)) (fun i _ => s.kinds.length - (intOf i).toNat)
       case atStart => exact ⟨0, Nat.zero_le _, rfl, Lib.hid (Below.refl _ _)⟩
       case round =>
         obtain ⟨q, hq, rfl, HBR⟩ := hrel;have hxr := (HBR.out.block _ (bx_lt HX5.out)).trans HX5.out;have HXR := Lib.hid hxr;have q3 := bx_cell hxr 3 rfl;clear hxr
         by_cases hlt : q < s.kinds.length
         case neg =>
           obtain rfl : q = s.kinds.length := by omega
           go_wp2_with fail
           go_meet
           exact below_step HB5.out HBR.out
         have t3 : decide ((q : Int) < (s.kinds.length : Int)) = true := by rw [decide_eq_true_eq]; omega
         have b3 : (0 : Int) ≤ (q : Int) := by omega
         have b4 : (q : Int) < (s.kinds.length : Int) := by omega
         obtain ⟨kb, ko, aj, cj, hak, _, _, z1, hp, _⟩ := (HG5.out.kinds.up HN5.out HBR.out).at_ hlt;have HPV := Lib.hid (HPS.out.2 _ (List.getElem_mem hlt));have hpl := (HBD.out.kind _ (List.getElem_mem hlt)).2;generalize (s.kinds[q]'hlt).progs = ps at *;obtain ⟨pn, hpn⟩ : ∃ pn, ps.length = pn := ⟨_, rfl⟩;rw [hpn] at z1 hpl;have HPN := Lib.hid hpn;have HPI := Lib.hid hp;have HZ1 := Lib.hid z1;have HAK := Lib.hid hak;have HNR : Hid (we.heap.size ≤ wr.heap.size) := Lib.hid (Nat.le_trans HN5.out HBR.out.size);rw [hak] at q3;clear hpn hp hak;go_wp2;clear q3 z1;generalize wr = wo at *
         go_loopw [10] (fun i wr => ∃ r : Nat, r ≤ pn ∧ i = .int .i64 (r : Int) ∧ Hid (Below wo.heap.size wo wr)) (fun i _ => pn - (intOf i).toNat)
         case atStart => exact ⟨0, Nat.zero_le _, rfl, Lib.hid (Below.refl _ _)⟩
         case round =>
           obtain ⟨r, hr, rfl, HBI⟩ := hrel;have hxi := (HBI.out.block _ (bx_lt HXR.out)).trans HXR.out;have q1 := bx_cell hxi 1 rfl;have q3 := bx_cell hxi 3 rfl;have q4 := bx_cell hxi 4 rfl;rw [HAK.out] at q3;have z1 := cell_keep HBI.out HZ1.out;clear hxi
           by_cases hrt : r < pn
           case neg =>
             obtain rfl : r = pn := by omega
             go_wp2
             go_roundw
             case rel => exact ⟨q + 1, by omega, by go_num, Lib.hid (below_step HBR.out HBI.out)⟩
             case measure => simp [intOf]; omega
           have t4 : decide ((r : Int) < (pn : Int)) = true := by rw [decide_eq_true_eq]; omega
           have b5 : (0 : Int) ≤ (r : Int) := by omega
           have b6 : (r : Int) < (pn : Int) := by omega
           have hrp : r < ps.length := by have := HPN.out; omega
           obtain ⟨pb, po, aq, cq, hja, _, p0, hPq⟩ := (HPI.out.up HNR.out HBI.out).at_ hrp;subst hja;have hVP := HPV.out _ (List.getElem_mem hrp);have hni := Nat.le_trans HNR.out HBI.out.size
           have HRV : Hid (∀ W, Below wr.heap.size wr W → Calls Tryz.prog 27 #[.slice aq (ps[r]'hrp).length cq, .int .i64 (s.b.next.length : Int), .int .i64 (s.kinds.length : Int), .int .i64 s.rights] W fun e w' => e = .returned (.bool true) ∧ Below W.heap.size W w') := Lib.hid (fun W hW => by
             have := valid_any (ps[r]'hrp) aq cq (s.b.next.length : Int) (s.kinds.length : Int) s.rights we.heap.size W (Nat.le_trans hni hW.size) (hPq.up hni hW) (HL.out.up (below_step HB0.out (below_step HB5.out (below_step HBR.out (below_step HBI.out hW))))).signs;rw [hVP] at this;exact this)
           generalize (ps[r]'hrp).length = lq at *;have hC : PaC wr b8 kb (ko + q * 3 + 1) pb (po + r) _ _ _ _ _ wr := ⟨Below.refl _ _, q1, q3, q4, z1, p0⟩;have hC2 := hC.up (Below.refl _ _).drew;clear hC hVP hPq hrp hni;go_upto_region 12 with (fail);clear q1 q3 q4 z1 p0;refine wp_region_quiet (C := PaC wr b8 kb (ko + q * 3 + 1) pb (po + r) _ _ _ _ _) (by kernel_rfl) (by kernel_rfl) hC2 ?_;clear hC2;dsimp only
           iterate 18
             refine wpQuiet_val (v := ?_) (by rfl) ?_ ?_;rotate_left
             · ((intro W hW; (try cases hW); go_simp); try with_reducible rfl)
             (try simp only [Act.put, sA, sB, sC])
           refine wpQuiet_val (v := .bool true) (by rfl) (fun W hW => ?_) ?_
           · go_simp
             exact (HRV.out W hW.b).mono fun e w' ⟨he, hb⟩ => ⟨he, hW.up hb⟩
           (try simp only [Act.put, sA, sB, sC]);refine wpQuiet_val (v := ?_) (by rfl) ?_ ?_;rotate_left
           · ((intro W hW; (try cases hW); go_simp); try with_reducible rfl)
           (try simp only [Act.put, sA, sB, sC]);refine wpQuiet_nil (fun w6 hW => ?_);have HB6 := Lib.hid hW.b;clear hW;go_wp2
           go_roundw
           case rel => exact ⟨r + 1, by omega, by go_num, Lib.hid (below_step HBI.out HB6.out)⟩
           case measure => simp [intOf]; omega
   case rest =>
     have hbx : Below we.heap.size we wc := hcut
     replace HX1 := Lib.hid ((hbx.block _ (bx_lt HX1.out)).trans HX1.out)
     replace HX2 := Lib.hid ((hbx.block _ (bx_lt HX2.out)).trans HX2.out)
     replace HB0 := Lib.hid (below_step HB0.out hbx)
     clear hbx hcut HX8 HG8 HB4 HVB
     generalize wc = w0 at *
     have HM1 := Lib.hid (fun W (h : Below w0.heap.size w0 W) => HMA.out W (below_step HB0.out h))
     have HM2 := Lib.hid (fun W (h : Below w0.heap.size w0 W) => HMB.out W (below_step HB0.out h))
     clear HMA HMB
     go_upto_region 14 with (fail)
     go_cut [11, 12, 66, 67, 68, 69] (fun s11 s12 _s66 _s67 _s68 _s69 wx => ∃ b8 b9 y y2, s11 = .pointer (some ⟨b8, 0, none⟩) ∧ s12 = .pointer (some ⟨b9, 0, none⟩) ∧ TwoMade w0 x x2 b8 b9 y y2 wx)
     case first =>
       clear HV1 HL HB0;have HS : Hid (∀ W, Below w0.heap.size w0 W → W.heap[w.heap.size]? = some (.cells (x.cells a0 a1 a2 c0 c1 c2) 27 (0, 0)) ∧ W.heap[(w.heap.size + 1)]? = some (.cells (x2.cells d0 d1 d2 k0 k1 k2) 27 (0, 0))) := Lib.hid (fun W h => ⟨(h.block _ (bx_lt HX1.out)).trans HX1.out, (h.block _ (bx_lt HX2.out)).trans HX2.out⟩);refine wp_region_held_drew (S := fun W => W.heap[w.heap.size]? = some (.cells (x.cells a0 a1 a2 c0 c1 c2) 27 (0, 0)) ∧ W.heap[(w.heap.size + 1)]? = some (.cells (x2.cells d0 d1 d2 k0 k1 k2) 27 (0, 0))) (by kernel_rfl) (HS.out _ (Below.refl _ w0).drew) (fun hHeld => ?_);have HBN := Lib.hid (Below.refl w0.heap.size w0).drew;generalize w0.drew = u0 at *
       refine wpAnyH_take (i := 0) (oi := { dst := some 66, op := Op.load 27 (Operand.tmp 3), type := 27, pos := "law.go:220", after := #[], guard := none }) (v := .agg (x.cells a0 a1 a2 c0 c1 c2).toList.toArray) rfl (by kernel_rfl) (by kernel_rfl) (by kernel_rfl) (fun _ _ _ h => h) (yieldsIf_load_mid rfl 27 (.tmp 3) rfl w.heap.size 0 rfl (x.cells a0 a1 a2 c0 c1 c2).toList _ (fun W hW => range_of_box hW.1) Tryz.underlying27 rfl info_raw3) (by assumption) ?_;(try simp only [Act.put, sA, sB, sC])
       refine wpAnyH_take (i := 2) (oi := { dst := some 68, op := Op.load 27 (Operand.tmp 4), type := 27, pos := "law.go:220", after := #[], guard := none }) (v := .agg (x2.cells d0 d1 d2 k0 k1 k2).toList.toArray) rfl (by kernel_rfl) (by kernel_rfl) (by kernel_rfl) (fun _ _ _ h => h) (yieldsIf_load_mid rfl 27 (.tmp 4) rfl (w.heap.size + 1) 0 rfl (x2.cells d0 d1 d2 k0 k1 k2).toList _ (fun W hW => range_of_box hW.2) Tryz.underlying27 rfl info_raw3) (by assumption) ?_;(try simp only [Act.put, sA, sB, sC]);(try rw [Array.toArray_toList]);(try rw [Array.toArray_toList]);clear hHeld;refine wpAnyH_ready (rs := [1, 4, 5]) (by kernel_rfl) (by simp) ?_
       refine (AllReadyH.cons (o := { dst := some 67, op := Op.call { callee := Callee.value (Operand.func 11), args := #[Operand.tmp 66], argTypes := #[27] }, type := 38, pos := "law.go:220", after := #[{ on := 0, ground := Ground.data }], guard := none }) rfl (fun K hK => ?_) (AllReadyH.cons (o := { dst := some 11, op := Op.alloc 38, type := 0, pos := "law.go:220", after := #[], guard := none }) rfl (fun K hK => ?_) (AllReadyH.cons (o := { dst := some 12, op := Op.alloc 38, type := 0, pos := "law.go:220", after := #[], guard := none }) rfl (fun K hK => ?_) AllReadyH.nil)));refine step_call_g rfl 11 _ _ #[.agg (x.cells a0 a1 a2 c0 c1 c2)] rfl rfl (enters_of Tryz.func11 (by kernel_rfl) rfl) ((HM1.out u0 HBN.out).mono ?_);rintro e u1 ⟨y1, rfl, hG, hb⟩;refine ⟨_, rfl, hK.out _ _ (HS.out _ (below_step HBN.out hb)) (fun _ => ?_)⟩;clear hK K;(try simp only [Act.put, sA, sB, sC])
       have HG1 := Lib.hid (hG.low HBN.out.size);replace HBN := Lib.hid (below_step HBN.out hb);clear hb hG;refine wpAnyH_ready (rs := [3, 4, 5]) (by kernel_rfl) (by simp) ?_;refine (AllReadyH.cons (o := { dst := some 69, op := Op.call { callee := Callee.value (Operand.func 11), args := #[Operand.tmp 68], argTypes := #[27] }, type := 38, pos := "law.go:220", after := #[{ on := 2, ground := Ground.data }, { on := 1, ground := Ground.chain }], guard := none }) rfl (fun K hK => ?_) (AllReadyH.cons (o := { dst := some 11, op := Op.alloc 38, type := 0, pos := "law.go:220", after := #[], guard := none }) rfl (fun K hK => ?_) (AllReadyH.cons (o := { dst := some 12, op := Op.alloc 38, type := 0, pos := "law.go:220", after := #[], guard := none }) rfl (fun K hK => ?_) AllReadyH.nil)))
       refine step_call_g rfl 11 _ _ #[.agg (x2.cells d0 d1 d2 k0 k1 k2)] rfl rfl (enters_of Tryz.func11 (by kernel_rfl) rfl) ((HM2.out u1 HBN.out).mono ?_);rintro e u2 ⟨y3, rfl, hG, hb⟩;refine ⟨_, rfl, hK.out _ _ (HS.out _ (below_step HBN.out hb)) (fun _ => ?_)⟩;clear hK K;(try simp only [Act.put, sA, sB, sC]);replace HG1 := Lib.hid (HG1.out.up hb);have HG3 := Lib.hid (hG.low HBN.out.size);replace HBN := Lib.hid (below_step HBN.out hb);clear hb hG;refine wpAnyH_ready (rs := [4, 5]) (by kernel_rfl) (by simp) ?_;refine (AllReadyH.cons (o := { dst := some 11, op := Op.alloc 38, type := 0, pos := "law.go:220", after := #[], guard := none }) rfl (fun K hK => ?_) (AllReadyH.cons (o := { dst := some 12, op := Op.alloc 38, type := 0, pos := "law.go:220", after := #[], guard := none }) rfl (fun K hK => ?_) AllReadyH.nil));go_simp
       refine hK.out _ _ (HS.out _ (below_alloc HBN.out _)) (fun _ => ?_);clear hK K;(try simp only [Act.put, sA, sB, sC]);have hb := below_alloc (Below.refl _ u2) (.cells zeroC 38);have hz : (u2.alloc (.cells zeroC 38)).heap[u2.heap.size]? = some (.cells zeroC 38 (0, 0)) := hpn _ rfl;obtain ⟨b4, hbe⟩ : ∃ b, u2.heap.size = b := ⟨_, rfl⟩;(try simp only [hbe]);rw [hbe] at hz
       have HL4 : Hid (w0.heap.size ≤ b4) := Lib.hid (by rw [← hbe]; exact HBN.out.size)
       replace HG1 := Lib.hid (HG1.out.up hb);replace HG3 := Lib.hid (HG3.out.up hb);have HA4 := Lib.hid hz;replace HBN := Lib.hid (below_step HBN.out hb);clear hb hz hbe;have hzw : u2.alloc (.cells #[.int .i64 0, .slice none 0 0, .slice none 0 0, .slice none 0 0, .int .i64 0, .bool false, .slice none 0 0, .int .i64 0, .int .i64 0] 38) = u2.alloc (.cells zeroC 38) := rfl;(try rw [hzw]);clear hzw;generalize u2.alloc (.cells zeroC 38) = u3 at *;refine wpAnyH_ready (rs := [5]) (by kernel_rfl) (by simp) ?_;refine (AllReadyH.cons (o := { dst := some 12, op := Op.alloc 38, type := 0, pos := "law.go:220", after := #[], guard := none }) rfl (fun K hK => ?_) AllReadyH.nil);go_simp;refine hK.out _ _ (HS.out _ (below_alloc HBN.out _)) (fun _ => ?_);clear hK K;(try simp only [Act.put, sA, sB, sC]);have hb := below_alloc (Below.refl _ u3) (.cells zeroC 38)
       have hz : (u3.alloc (.cells zeroC 38)).heap[u3.heap.size]? = some (.cells zeroC 38 (0, 0)) := hpn _ rfl;obtain ⟨b5, hbe⟩ : ∃ b, u3.heap.size = b := ⟨_, rfl⟩;(try simp only [hbe]);rw [hbe] at hz
       have HL5 : Hid (w0.heap.size ≤ b5) := Lib.hid (by rw [← hbe]; exact HBN.out.size)
       have HNE : Hid (b4 ≠ b5) := Lib.hid (by have := bx_lt HA4.out; omega)
       replace HG1 := Lib.hid (HG1.out.up hb);replace HG3 := Lib.hid (HG3.out.up hb);replace HA4 := Lib.hid ((hb.block _ (bx_lt HA4.out)).trans HA4.out);have HA5 := Lib.hid hz;replace HBN := Lib.hid (below_step HBN.out hb);clear hb hz hbe;have hzw : u3.alloc (.cells #[.int .i64 0, .slice none 0 0, .slice none 0 0, .slice none 0 0, .int .i64 0, .bool false, .slice none 0 0, .int .i64 0, .int .i64 0] 38) = u3.alloc (.cells zeroC 38) := rfl;(try rw [hzw]);clear hzw;generalize u3.alloc (.cells zeroC 38) = u4 at *;rotate_left 1;go_simp;refine hK.out _ _ (HS.out _ (below_alloc HBN.out _)) (fun _ => ?_);clear hK K;(try simp only [Act.put, sA, sB, sC]);have hb := below_alloc (Below.refl _ u2) (.cells zeroC 38);have hz : (u2.alloc (.cells zeroC 38)).heap[u2.heap.size]? = some (.cells zeroC 38 (0, 0)) := hpn _ rfl;obtain ⟨b5, hbe⟩ : ∃ b, u2.heap.size = b := ⟨_, rfl⟩;(try simp only [hbe])
       rw [hbe] at hz
       have HL5 : Hid (w0.heap.size ≤ b5) := Lib.hid (by rw [← hbe]; exact HBN.out.size)
       replace HG1 := Lib.hid (HG1.out.up hb);replace HG3 := Lib.hid (HG3.out.up hb);have HA5 := Lib.hid hz;replace HBN := Lib.hid (below_step HBN.out hb);clear hb hz hbe;have hzw : u2.alloc (.cells #[.int .i64 0, .slice none 0 0, .slice none 0 0, .slice none 0 0, .int .i64 0, .bool false, .slice none 0 0, .int .i64 0, .int .i64 0] 38) = u2.alloc (.cells zeroC 38) := rfl;(try rw [hzw]);clear hzw;generalize u2.alloc (.cells zeroC 38) = u3 at *;refine wpAnyH_ready (rs := [4]) (by kernel_rfl) (by simp) ?_;refine (AllReadyH.cons (o := { dst := some 11, op := Op.alloc 38, type := 0, pos := "law.go:220", after := #[], guard := none }) rfl (fun K hK => ?_) AllReadyH.nil);go_simp;refine hK.out _ _ (HS.out _ (below_alloc HBN.out _)) (fun _ => ?_);clear hK K;(try simp only [Act.put, sA, sB, sC]);have hb := below_alloc (Below.refl _ u3) (.cells zeroC 38)
       have hz : (u3.alloc (.cells zeroC 38)).heap[u3.heap.size]? = some (.cells zeroC 38 (0, 0)) := hpn _ rfl;obtain ⟨b4, hbe⟩ : ∃ b, u3.heap.size = b := ⟨_, rfl⟩;(try simp only [hbe]);rw [hbe] at hz
       have HL4 : Hid (w0.heap.size ≤ b4) := Lib.hid (by rw [← hbe]; exact HBN.out.size)
       have HNE : Hid (b4 ≠ b5) := Lib.hid (by have := bx_lt HA5.out; omega)
       replace HG1 := Lib.hid (HG1.out.up hb);replace HG3 := Lib.hid (HG3.out.up hb);replace HA5 := Lib.hid ((hb.block _ (bx_lt HA5.out)).trans HA5.out);have HA4 := Lib.hid hz;replace HBN := Lib.hid (below_step HBN.out hb);clear hb hz hbe;have hzw : u3.alloc (.cells #[.int .i64 0, .slice none 0 0, .slice none 0 0, .slice none 0 0, .int .i64 0, .bool false, .slice none 0 0, .int .i64 0, .int .i64 0] 38) = u3.alloc (.cells zeroC 38) := rfl;(try rw [hzw]);clear hzw;generalize u3.alloc (.cells zeroC 38) = u4 at *;rotate_left 1;go_simp;refine hK.out _ _ (HS.out _ (below_alloc HBN.out _)) (fun _ => ?_);clear hK K;(try simp only [Act.put, sA, sB, sC]);have hb := below_alloc (Below.refl _ u1) (.cells zeroC 38);have hz : (u1.alloc (.cells zeroC 38)).heap[u1.heap.size]? = some (.cells zeroC 38 (0, 0)) := hpn _ rfl;obtain ⟨b4, hbe⟩ : ∃ b, u1.heap.size = b := ⟨_, rfl⟩;(try simp only [hbe])
       rw [hbe] at hz
       have HL4 : Hid (w0.heap.size ≤ b4) := Lib.hid (by rw [← hbe]; exact HBN.out.size)
       replace HG1 := Lib.hid (HG1.out.up hb);have HA4 := Lib.hid hz;replace HBN := Lib.hid (below_step HBN.out hb);clear hb hz hbe;have hzw : u1.alloc (.cells #[.int .i64 0, .slice none 0 0, .slice none 0 0, .slice none 0 0, .int .i64 0, .bool false, .slice none 0 0, .int .i64 0, .int .i64 0] 38) = u1.alloc (.cells zeroC 38) := rfl;(try rw [hzw]);clear hzw;generalize u1.alloc (.cells zeroC 38) = u2 at *;refine wpAnyH_ready (rs := [3, 5]) (by kernel_rfl) (by simp) ?_
       refine (AllReadyH.cons (o := { dst := some 69, op := Op.call { callee := Callee.value (Operand.func 11), args := #[Operand.tmp 68], argTypes := #[27] }, type := 38, pos := "law.go:220", after := #[{ on := 2, ground := Ground.data }, { on := 1, ground := Ground.chain }], guard := none }) rfl (fun K hK => ?_) (AllReadyH.cons (o := { dst := some 12, op := Op.alloc 38, type := 0, pos := "law.go:220", after := #[], guard := none }) rfl (fun K hK => ?_) AllReadyH.nil));refine step_call_g rfl 11 _ _ #[.agg (x2.cells d0 d1 d2 k0 k1 k2)] rfl rfl (enters_of Tryz.func11 (by kernel_rfl) rfl) ((HM2.out u2 HBN.out).mono ?_);rintro e u3 ⟨y3, rfl, hG, hb⟩;refine ⟨_, rfl, hK.out _ _ (HS.out _ (below_step HBN.out hb)) (fun _ => ?_)⟩;clear hK K;(try simp only [Act.put, sA, sB, sC]);replace HG1 := Lib.hid (HG1.out.up hb);replace HA4 := Lib.hid ((hb.block _ (bx_lt HA4.out)).trans HA4.out)
       have HG3 := Lib.hid (hG.low HBN.out.size);replace HBN := Lib.hid (below_step HBN.out hb);clear hb hG;refine wpAnyH_ready (rs := [5]) (by kernel_rfl) (by simp) ?_;refine (AllReadyH.cons (o := { dst := some 12, op := Op.alloc 38, type := 0, pos := "law.go:220", after := #[], guard := none }) rfl (fun K hK => ?_) AllReadyH.nil);go_simp;refine hK.out _ _ (HS.out _ (below_alloc HBN.out _)) (fun _ => ?_);clear hK K;(try simp only [Act.put, sA, sB, sC]);have hb := below_alloc (Below.refl _ u3) (.cells zeroC 38);have hz : (u3.alloc (.cells zeroC 38)).heap[u3.heap.size]? = some (.cells zeroC 38 (0, 0)) := hpn _ rfl;obtain ⟨b5, hbe⟩ : ∃ b, u3.heap.size = b := ⟨_, rfl⟩;(try simp only [hbe]);rw [hbe] at hz
       have HL5 : Hid (w0.heap.size ≤ b5) := Lib.hid (by rw [← hbe]; exact HBN.out.size)
       have HNE : Hid (b4 ≠ b5) := Lib.hid (by have := bx_lt HA4.out; omega)
       replace HG1 := Lib.hid (HG1.out.up hb);replace HG3 := Lib.hid (HG3.out.up hb);replace HA4 := Lib.hid ((hb.block _ (bx_lt HA4.out)).trans HA4.out);have HA5 := Lib.hid hz;replace HBN := Lib.hid (below_step HBN.out hb);clear hb hz hbe;have hzw : u3.alloc (.cells #[.int .i64 0, .slice none 0 0, .slice none 0 0, .slice none 0 0, .int .i64 0, .bool false, .slice none 0 0, .int .i64 0, .int .i64 0] 38) = u3.alloc (.cells zeroC 38) := rfl;(try rw [hzw]);clear hzw;generalize u3.alloc (.cells zeroC 38) = u4 at *;rotate_left 1;go_simp;refine hK.out _ _ (HS.out _ (below_alloc HBN.out _)) (fun _ => ?_);clear hK K;(try simp only [Act.put, sA, sB, sC]);have hb := below_alloc (Below.refl _ u2) (.cells zeroC 38);have hz : (u2.alloc (.cells zeroC 38)).heap[u2.heap.size]? = some (.cells zeroC 38 (0, 0)) := hpn _ rfl;obtain ⟨b5, hbe⟩ : ∃ b, u2.heap.size = b := ⟨_, rfl⟩;(try simp only [hbe])
       rw [hbe] at hz
       have HL5 : Hid (w0.heap.size ≤ b5) := Lib.hid (by rw [← hbe]; exact HBN.out.size)
       have HNE : Hid (b4 ≠ b5) := Lib.hid (by have := bx_lt HA4.out; omega)
       replace HG1 := Lib.hid (HG1.out.up hb);replace HA4 := Lib.hid ((hb.block _ (bx_lt HA4.out)).trans HA4.out);have HA5 := Lib.hid hz;replace HBN := Lib.hid (below_step HBN.out hb);clear hb hz hbe;have hzw : u2.alloc (.cells #[.int .i64 0, .slice none 0 0, .slice none 0 0, .slice none 0 0, .int .i64 0, .bool false, .slice none 0 0, .int .i64 0, .int .i64 0] 38) = u2.alloc (.cells zeroC 38) := rfl;(try rw [hzw]);clear hzw;generalize u2.alloc (.cells zeroC 38) = u3 at *;refine wpAnyH_ready (rs := [3]) (by kernel_rfl) (by simp) ?_;refine (AllReadyH.cons (o := { dst := some 69, op := Op.call { callee := Callee.value (Operand.func 11), args := #[Operand.tmp 68], argTypes := #[27] }, type := 38, pos := "law.go:220", after := #[{ on := 2, ground := Ground.data }, { on := 1, ground := Ground.chain }], guard := none }) rfl (fun K hK => ?_) AllReadyH.nil)
       refine step_call_g rfl 11 _ _ #[.agg (x2.cells d0 d1 d2 k0 k1 k2)] rfl rfl (enters_of Tryz.func11 (by kernel_rfl) rfl) ((HM2.out u3 HBN.out).mono ?_);rintro e u4 ⟨y3, rfl, hG, hb⟩;refine ⟨_, rfl, hK.out _ _ (HS.out _ (below_step HBN.out hb)) (fun _ => ?_)⟩;clear hK K;(try simp only [Act.put, sA, sB, sC]);replace HG1 := Lib.hid (HG1.out.up hb);replace HA4 := Lib.hid ((hb.block _ (bx_lt HA4.out)).trans HA4.out);replace HA5 := Lib.hid ((hb.block _ (bx_lt HA5.out)).trans HA5.out);have HG3 := Lib.hid (hG.low HBN.out.size);replace HBN := Lib.hid (below_step HBN.out hb);clear hb hG;rotate_left 1;go_simp;refine hK.out _ _ (HS.out _ (below_alloc HBN.out _)) (fun _ => ?_);clear hK K;(try simp only [Act.put, sA, sB, sC]);have hb := below_alloc (Below.refl _ u1) (.cells zeroC 38);have hz : (u1.alloc (.cells zeroC 38)).heap[u1.heap.size]? = some (.cells zeroC 38 (0, 0)) := hpn _ rfl
       obtain ⟨b5, hbe⟩ : ∃ b, u1.heap.size = b := ⟨_, rfl⟩;(try simp only [hbe]);rw [hbe] at hz
       have HL5 : Hid (w0.heap.size ≤ b5) := Lib.hid (by rw [← hbe]; exact HBN.out.size)
       replace HG1 := Lib.hid (HG1.out.up hb);have HA5 := Lib.hid hz;replace HBN := Lib.hid (below_step HBN.out hb);clear hb hz hbe;have hzw : u1.alloc (.cells #[.int .i64 0, .slice none 0 0, .slice none 0 0, .slice none 0 0, .int .i64 0, .bool false, .slice none 0 0, .int .i64 0, .int .i64 0] 38) = u1.alloc (.cells zeroC 38) := rfl;(try rw [hzw]);clear hzw;generalize u1.alloc (.cells zeroC 38) = u2 at *;refine wpAnyH_ready (rs := [3, 4]) (by kernel_rfl) (by simp) ?_
       refine (AllReadyH.cons (o := { dst := some 69, op := Op.call { callee := Callee.value (Operand.func 11), args := #[Operand.tmp 68], argTypes := #[27] }, type := 38, pos := "law.go:220", after := #[{ on := 2, ground := Ground.data }, { on := 1, ground := Ground.chain }], guard := none }) rfl (fun K hK => ?_) (AllReadyH.cons (o := { dst := some 11, op := Op.alloc 38, type := 0, pos := "law.go:220", after := #[], guard := none }) rfl (fun K hK => ?_) AllReadyH.nil));refine step_call_g rfl 11 _ _ #[.agg (x2.cells d0 d1 d2 k0 k1 k2)] rfl rfl (enters_of Tryz.func11 (by kernel_rfl) rfl) ((HM2.out u2 HBN.out).mono ?_);rintro e u3 ⟨y3, rfl, hG, hb⟩;refine ⟨_, rfl, hK.out _ _ (HS.out _ (below_step HBN.out hb)) (fun _ => ?_)⟩;clear hK K;(try simp only [Act.put, sA, sB, sC]);replace HG1 := Lib.hid (HG1.out.up hb);replace HA5 := Lib.hid ((hb.block _ (bx_lt HA5.out)).trans HA5.out)
       have HG3 := Lib.hid (hG.low HBN.out.size);replace HBN := Lib.hid (below_step HBN.out hb);clear hb hG;refine wpAnyH_ready (rs := [4]) (by kernel_rfl) (by simp) ?_;refine (AllReadyH.cons (o := { dst := some 11, op := Op.alloc 38, type := 0, pos := "law.go:220", after := #[], guard := none }) rfl (fun K hK => ?_) AllReadyH.nil);go_simp;refine hK.out _ _ (HS.out _ (below_alloc HBN.out _)) (fun _ => ?_);clear hK K;(try simp only [Act.put, sA, sB, sC]);have hb := below_alloc (Below.refl _ u3) (.cells zeroC 38);have hz : (u3.alloc (.cells zeroC 38)).heap[u3.heap.size]? = some (.cells zeroC 38 (0, 0)) := hpn _ rfl;obtain ⟨b4, hbe⟩ : ∃ b, u3.heap.size = b := ⟨_, rfl⟩;(try simp only [hbe]);rw [hbe] at hz
       have HL4 : Hid (w0.heap.size ≤ b4) := Lib.hid (by rw [← hbe]; exact HBN.out.size)
       have HNE : Hid (b4 ≠ b5) := Lib.hid (by have := bx_lt HA5.out; omega)
       replace HG1 := Lib.hid (HG1.out.up hb);replace HG3 := Lib.hid (HG3.out.up hb);replace HA5 := Lib.hid ((hb.block _ (bx_lt HA5.out)).trans HA5.out);have HA4 := Lib.hid hz;replace HBN := Lib.hid (below_step HBN.out hb);clear hb hz hbe;have hzw : u3.alloc (.cells #[.int .i64 0, .slice none 0 0, .slice none 0 0, .slice none 0 0, .int .i64 0, .bool false, .slice none 0 0, .int .i64 0, .int .i64 0] 38) = u3.alloc (.cells zeroC 38) := rfl;(try rw [hzw]);clear hzw;generalize u3.alloc (.cells zeroC 38) = u4 at *;rotate_left 1;go_simp;refine hK.out _ _ (HS.out _ (below_alloc HBN.out _)) (fun _ => ?_);clear hK K;(try simp only [Act.put, sA, sB, sC]);have hb := below_alloc (Below.refl _ u2) (.cells zeroC 38);have hz : (u2.alloc (.cells zeroC 38)).heap[u2.heap.size]? = some (.cells zeroC 38 (0, 0)) := hpn _ rfl;obtain ⟨b4, hbe⟩ : ∃ b, u2.heap.size = b := ⟨_, rfl⟩;(try simp only [hbe])
       rw [hbe] at hz
       have HL4 : Hid (w0.heap.size ≤ b4) := Lib.hid (by rw [← hbe]; exact HBN.out.size)
       have HNE : Hid (b4 ≠ b5) := Lib.hid (by have := bx_lt HA5.out; omega)
       replace HG1 := Lib.hid (HG1.out.up hb);replace HA5 := Lib.hid ((hb.block _ (bx_lt HA5.out)).trans HA5.out);have HA4 := Lib.hid hz;replace HBN := Lib.hid (below_step HBN.out hb);clear hb hz hbe;have hzw : u2.alloc (.cells #[.int .i64 0, .slice none 0 0, .slice none 0 0, .slice none 0 0, .int .i64 0, .bool false, .slice none 0 0, .int .i64 0, .int .i64 0] 38) = u2.alloc (.cells zeroC 38) := rfl;(try rw [hzw]);clear hzw;generalize u2.alloc (.cells zeroC 38) = u3 at *;refine wpAnyH_ready (rs := [3]) (by kernel_rfl) (by simp) ?_;refine (AllReadyH.cons (o := { dst := some 69, op := Op.call { callee := Callee.value (Operand.func 11), args := #[Operand.tmp 68], argTypes := #[27] }, type := 38, pos := "law.go:220", after := #[{ on := 2, ground := Ground.data }, { on := 1, ground := Ground.chain }], guard := none }) rfl (fun K hK => ?_) AllReadyH.nil)
       refine step_call_g rfl 11 _ _ #[.agg (x2.cells d0 d1 d2 k0 k1 k2)] rfl rfl (enters_of Tryz.func11 (by kernel_rfl) rfl) ((HM2.out u3 HBN.out).mono ?_);rintro e u4 ⟨y3, rfl, hG, hb⟩;refine ⟨_, rfl, hK.out _ _ (HS.out _ (below_step HBN.out hb)) (fun _ => ?_)⟩;clear hK K;(try simp only [Act.put, sA, sB, sC]);replace HG1 := Lib.hid (HG1.out.up hb);replace HA4 := Lib.hid ((hb.block _ (bx_lt HA4.out)).trans HA4.out);replace HA5 := Lib.hid ((hb.block _ (bx_lt HA5.out)).trans HA5.out);have HG3 := Lib.hid (hG.low HBN.out.size);replace HBN := Lib.hid (below_step HBN.out hb);clear hb hG;rotate_left 1;go_simp;refine hK.out _ _ (HS.out _ (below_alloc HBN.out _)) (fun _ => ?_);clear hK K;(try simp only [Act.put, sA, sB, sC]);have hb := below_alloc (Below.refl _ u0) (.cells zeroC 38);have hz : (u0.alloc (.cells zeroC 38)).heap[u0.heap.size]? = some (.cells zeroC 38 (0, 0)) := hpn _ rfl
       obtain ⟨b4, hbe⟩ : ∃ b, u0.heap.size = b := ⟨_, rfl⟩;(try simp only [hbe]);rw [hbe] at hz
       have HL4 : Hid (w0.heap.size ≤ b4) := Lib.hid (by rw [← hbe]; exact HBN.out.size)
       have HA4 := Lib.hid hz;replace HBN := Lib.hid (below_step HBN.out hb);clear hb hz hbe;have hzw : u0.alloc (.cells #[.int .i64 0, .slice none 0 0, .slice none 0 0, .slice none 0 0, .int .i64 0, .bool false, .slice none 0 0, .int .i64 0, .int .i64 0] 38) = u0.alloc (.cells zeroC 38) := rfl;(try rw [hzw]);clear hzw;generalize u0.alloc (.cells zeroC 38) = u1 at *;refine wpAnyH_ready (rs := [1, 5]) (by kernel_rfl) (by simp) ?_;refine (AllReadyH.cons (o := { dst := some 67, op := Op.call { callee := Callee.value (Operand.func 11), args := #[Operand.tmp 66], argTypes := #[27] }, type := 38, pos := "law.go:220", after := #[{ on := 0, ground := Ground.data }], guard := none }) rfl (fun K hK => ?_) (AllReadyH.cons (o := { dst := some 12, op := Op.alloc 38, type := 0, pos := "law.go:220", after := #[], guard := none }) rfl (fun K hK => ?_) AllReadyH.nil))
       refine step_call_g rfl 11 _ _ #[.agg (x.cells a0 a1 a2 c0 c1 c2)] rfl rfl (enters_of Tryz.func11 (by kernel_rfl) rfl) ((HM1.out u1 HBN.out).mono ?_);rintro e u2 ⟨y1, rfl, hG, hb⟩;refine ⟨_, rfl, hK.out _ _ (HS.out _ (below_step HBN.out hb)) (fun _ => ?_)⟩;clear hK K;(try simp only [Act.put, sA, sB, sC]);replace HA4 := Lib.hid ((hb.block _ (bx_lt HA4.out)).trans HA4.out);have HG1 := Lib.hid (hG.low HBN.out.size);replace HBN := Lib.hid (below_step HBN.out hb);clear hb hG;refine wpAnyH_ready (rs := [3, 5]) (by kernel_rfl) (by simp) ?_
       refine (AllReadyH.cons (o := { dst := some 69, op := Op.call { callee := Callee.value (Operand.func 11), args := #[Operand.tmp 68], argTypes := #[27] }, type := 38, pos := "law.go:220", after := #[{ on := 2, ground := Ground.data }, { on := 1, ground := Ground.chain }], guard := none }) rfl (fun K hK => ?_) (AllReadyH.cons (o := { dst := some 12, op := Op.alloc 38, type := 0, pos := "law.go:220", after := #[], guard := none }) rfl (fun K hK => ?_) AllReadyH.nil));refine step_call_g rfl 11 _ _ #[.agg (x2.cells d0 d1 d2 k0 k1 k2)] rfl rfl (enters_of Tryz.func11 (by kernel_rfl) rfl) ((HM2.out u2 HBN.out).mono ?_);rintro e u3 ⟨y3, rfl, hG, hb⟩;refine ⟨_, rfl, hK.out _ _ (HS.out _ (below_step HBN.out hb)) (fun _ => ?_)⟩;clear hK K;(try simp only [Act.put, sA, sB, sC]);replace HG1 := Lib.hid (HG1.out.up hb);replace HA4 := Lib.hid ((hb.block _ (bx_lt HA4.out)).trans HA4.out)
       have HG3 := Lib.hid (hG.low HBN.out.size);replace HBN := Lib.hid (below_step HBN.out hb);clear hb hG;refine wpAnyH_ready (rs := [5]) (by kernel_rfl) (by simp) ?_;refine (AllReadyH.cons (o := { dst := some 12, op := Op.alloc 38, type := 0, pos := "law.go:220", after := #[], guard := none }) rfl (fun K hK => ?_) AllReadyH.nil);go_simp;refine hK.out _ _ (HS.out _ (below_alloc HBN.out _)) (fun _ => ?_);clear hK K;(try simp only [Act.put, sA, sB, sC]);have hb := below_alloc (Below.refl _ u3) (.cells zeroC 38);have hz : (u3.alloc (.cells zeroC 38)).heap[u3.heap.size]? = some (.cells zeroC 38 (0, 0)) := hpn _ rfl;obtain ⟨b5, hbe⟩ : ∃ b, u3.heap.size = b := ⟨_, rfl⟩;(try simp only [hbe]);rw [hbe] at hz
       have HL5 : Hid (w0.heap.size ≤ b5) := Lib.hid (by rw [← hbe]; exact HBN.out.size)
       have HNE : Hid (b4 ≠ b5) := Lib.hid (by have := bx_lt HA4.out; omega)
       replace HG1 := Lib.hid (HG1.out.up hb);replace HG3 := Lib.hid (HG3.out.up hb);replace HA4 := Lib.hid ((hb.block _ (bx_lt HA4.out)).trans HA4.out);have HA5 := Lib.hid hz;replace HBN := Lib.hid (below_step HBN.out hb);clear hb hz hbe;have hzw : u3.alloc (.cells #[.int .i64 0, .slice none 0 0, .slice none 0 0, .slice none 0 0, .int .i64 0, .bool false, .slice none 0 0, .int .i64 0, .int .i64 0] 38) = u3.alloc (.cells zeroC 38) := rfl;(try rw [hzw]);clear hzw;generalize u3.alloc (.cells zeroC 38) = u4 at *;rotate_left 1;go_simp;refine hK.out _ _ (HS.out _ (below_alloc HBN.out _)) (fun _ => ?_);clear hK K;(try simp only [Act.put, sA, sB, sC]);have hb := below_alloc (Below.refl _ u2) (.cells zeroC 38);have hz : (u2.alloc (.cells zeroC 38)).heap[u2.heap.size]? = some (.cells zeroC 38 (0, 0)) := hpn _ rfl;obtain ⟨b5, hbe⟩ : ∃ b, u2.heap.size = b := ⟨_, rfl⟩;(try simp only [hbe])
       rw [hbe] at hz
       have HL5 : Hid (w0.heap.size ≤ b5) := Lib.hid (by rw [← hbe]; exact HBN.out.size)
       have HNE : Hid (b4 ≠ b5) := Lib.hid (by have := bx_lt HA4.out; omega)
       replace HG1 := Lib.hid (HG1.out.up hb);replace HA4 := Lib.hid ((hb.block _ (bx_lt HA4.out)).trans HA4.out);have HA5 := Lib.hid hz;replace HBN := Lib.hid (below_step HBN.out hb);clear hb hz hbe;have hzw : u2.alloc (.cells #[.int .i64 0, .slice none 0 0, .slice none 0 0, .slice none 0 0, .int .i64 0, .bool false, .slice none 0 0, .int .i64 0, .int .i64 0] 38) = u2.alloc (.cells zeroC 38) := rfl;(try rw [hzw]);clear hzw;generalize u2.alloc (.cells zeroC 38) = u3 at *;refine wpAnyH_ready (rs := [3]) (by kernel_rfl) (by simp) ?_;refine (AllReadyH.cons (o := { dst := some 69, op := Op.call { callee := Callee.value (Operand.func 11), args := #[Operand.tmp 68], argTypes := #[27] }, type := 38, pos := "law.go:220", after := #[{ on := 2, ground := Ground.data }, { on := 1, ground := Ground.chain }], guard := none }) rfl (fun K hK => ?_) AllReadyH.nil)
       refine step_call_g rfl 11 _ _ #[.agg (x2.cells d0 d1 d2 k0 k1 k2)] rfl rfl (enters_of Tryz.func11 (by kernel_rfl) rfl) ((HM2.out u3 HBN.out).mono ?_);rintro e u4 ⟨y3, rfl, hG, hb⟩;refine ⟨_, rfl, hK.out _ _ (HS.out _ (below_step HBN.out hb)) (fun _ => ?_)⟩;clear hK K;(try simp only [Act.put, sA, sB, sC]);replace HG1 := Lib.hid (HG1.out.up hb);replace HA4 := Lib.hid ((hb.block _ (bx_lt HA4.out)).trans HA4.out);replace HA5 := Lib.hid ((hb.block _ (bx_lt HA5.out)).trans HA5.out);have HG3 := Lib.hid (hG.low HBN.out.size);replace HBN := Lib.hid (below_step HBN.out hb);clear hb hG;rotate_left 1;go_simp;refine hK.out _ _ (HS.out _ (below_alloc HBN.out _)) (fun _ => ?_);clear hK K;(try simp only [Act.put, sA, sB, sC]);have hb := below_alloc (Below.refl _ u1) (.cells zeroC 38);have hz : (u1.alloc (.cells zeroC 38)).heap[u1.heap.size]? = some (.cells zeroC 38 (0, 0)) := hpn _ rfl
       obtain ⟨b5, hbe⟩ : ∃ b, u1.heap.size = b := ⟨_, rfl⟩;(try simp only [hbe]);rw [hbe] at hz
       have HL5 : Hid (w0.heap.size ≤ b5) := Lib.hid (by rw [← hbe]; exact HBN.out.size)
       have HNE : Hid (b4 ≠ b5) := Lib.hid (by have := bx_lt HA4.out; omega)
       replace HA4 := Lib.hid ((hb.block _ (bx_lt HA4.out)).trans HA4.out);have HA5 := Lib.hid hz;replace HBN := Lib.hid (below_step HBN.out hb);clear hb hz hbe;have hzw : u1.alloc (.cells #[.int .i64 0, .slice none 0 0, .slice none 0 0, .slice none 0 0, .int .i64 0, .bool false, .slice none 0 0, .int .i64 0, .int .i64 0] 38) = u1.alloc (.cells zeroC 38) := rfl;(try rw [hzw]);clear hzw;generalize u1.alloc (.cells zeroC 38) = u2 at *;refine wpAnyH_ready (rs := [1]) (by kernel_rfl) (by simp) ?_;refine (AllReadyH.cons (o := { dst := some 67, op := Op.call { callee := Callee.value (Operand.func 11), args := #[Operand.tmp 66], argTypes := #[27] }, type := 38, pos := "law.go:220", after := #[{ on := 0, ground := Ground.data }], guard := none }) rfl (fun K hK => ?_) AllReadyH.nil)
       refine step_call_g rfl 11 _ _ #[.agg (x.cells a0 a1 a2 c0 c1 c2)] rfl rfl (enters_of Tryz.func11 (by kernel_rfl) rfl) ((HM1.out u2 HBN.out).mono ?_);rintro e u3 ⟨y1, rfl, hG, hb⟩;refine ⟨_, rfl, hK.out _ _ (HS.out _ (below_step HBN.out hb)) (fun _ => ?_)⟩;clear hK K;(try simp only [Act.put, sA, sB, sC]);replace HA4 := Lib.hid ((hb.block _ (bx_lt HA4.out)).trans HA4.out);replace HA5 := Lib.hid ((hb.block _ (bx_lt HA5.out)).trans HA5.out);have HG1 := Lib.hid (hG.low HBN.out.size);replace HBN := Lib.hid (below_step HBN.out hb);clear hb hG;refine wpAnyH_ready (rs := [3]) (by kernel_rfl) (by simp) ?_
       refine (AllReadyH.cons (o := { dst := some 69, op := Op.call { callee := Callee.value (Operand.func 11), args := #[Operand.tmp 68], argTypes := #[27] }, type := 38, pos := "law.go:220", after := #[{ on := 2, ground := Ground.data }, { on := 1, ground := Ground.chain }], guard := none }) rfl (fun K hK => ?_) AllReadyH.nil);refine step_call_g rfl 11 _ _ #[.agg (x2.cells d0 d1 d2 k0 k1 k2)] rfl rfl (enters_of Tryz.func11 (by kernel_rfl) rfl) ((HM2.out u3 HBN.out).mono ?_);rintro e u4 ⟨y3, rfl, hG, hb⟩;refine ⟨_, rfl, hK.out _ _ (HS.out _ (below_step HBN.out hb)) (fun _ => ?_)⟩;clear hK K;(try simp only [Act.put, sA, sB, sC]);replace HG1 := Lib.hid (HG1.out.up hb);replace HA4 := Lib.hid ((hb.block _ (bx_lt HA4.out)).trans HA4.out);replace HA5 := Lib.hid ((hb.block _ (bx_lt HA5.out)).trans HA5.out);have HG3 := Lib.hid (hG.low HBN.out.size)
       replace HBN := Lib.hid (below_step HBN.out hb);clear hb hG;rotate_left 1;go_simp;refine hK.out _ _ (HS.out _ (below_alloc HBN.out _)) (fun _ => ?_);clear hK K;(try simp only [Act.put, sA, sB, sC]);have hb := below_alloc (Below.refl _ u0) (.cells zeroC 38);have hz : (u0.alloc (.cells zeroC 38)).heap[u0.heap.size]? = some (.cells zeroC 38 (0, 0)) := hpn _ rfl;obtain ⟨b5, hbe⟩ : ∃ b, u0.heap.size = b := ⟨_, rfl⟩;(try simp only [hbe]);rw [hbe] at hz
       have HL5 : Hid (w0.heap.size ≤ b5) := Lib.hid (by rw [← hbe]; exact HBN.out.size)
       have HA5 := Lib.hid hz;replace HBN := Lib.hid (below_step HBN.out hb);clear hb hz hbe;have hzw : u0.alloc (.cells #[.int .i64 0, .slice none 0 0, .slice none 0 0, .slice none 0 0, .int .i64 0, .bool false, .slice none 0 0, .int .i64 0, .int .i64 0] 38) = u0.alloc (.cells zeroC 38) := rfl;(try rw [hzw]);clear hzw;generalize u0.alloc (.cells zeroC 38) = u1 at *;refine wpAnyH_ready (rs := [1, 4]) (by kernel_rfl) (by simp) ?_;refine (AllReadyH.cons (o := { dst := some 67, op := Op.call { callee := Callee.value (Operand.func 11), args := #[Operand.tmp 66], argTypes := #[27] }, type := 38, pos := "law.go:220", after := #[{ on := 0, ground := Ground.data }], guard := none }) rfl (fun K hK => ?_) (AllReadyH.cons (o := { dst := some 11, op := Op.alloc 38, type := 0, pos := "law.go:220", after := #[], guard := none }) rfl (fun K hK => ?_) AllReadyH.nil))
       refine step_call_g rfl 11 _ _ #[.agg (x.cells a0 a1 a2 c0 c1 c2)] rfl rfl (enters_of Tryz.func11 (by kernel_rfl) rfl) ((HM1.out u1 HBN.out).mono ?_);rintro e u2 ⟨y1, rfl, hG, hb⟩;refine ⟨_, rfl, hK.out _ _ (HS.out _ (below_step HBN.out hb)) (fun _ => ?_)⟩;clear hK K;(try simp only [Act.put, sA, sB, sC]);replace HA5 := Lib.hid ((hb.block _ (bx_lt HA5.out)).trans HA5.out);have HG1 := Lib.hid (hG.low HBN.out.size);replace HBN := Lib.hid (below_step HBN.out hb);clear hb hG;refine wpAnyH_ready (rs := [3, 4]) (by kernel_rfl) (by simp) ?_
       refine (AllReadyH.cons (o := { dst := some 69, op := Op.call { callee := Callee.value (Operand.func 11), args := #[Operand.tmp 68], argTypes := #[27] }, type := 38, pos := "law.go:220", after := #[{ on := 2, ground := Ground.data }, { on := 1, ground := Ground.chain }], guard := none }) rfl (fun K hK => ?_) (AllReadyH.cons (o := { dst := some 11, op := Op.alloc 38, type := 0, pos := "law.go:220", after := #[], guard := none }) rfl (fun K hK => ?_) AllReadyH.nil));refine step_call_g rfl 11 _ _ #[.agg (x2.cells d0 d1 d2 k0 k1 k2)] rfl rfl (enters_of Tryz.func11 (by kernel_rfl) rfl) ((HM2.out u2 HBN.out).mono ?_);rintro e u3 ⟨y3, rfl, hG, hb⟩;refine ⟨_, rfl, hK.out _ _ (HS.out _ (below_step HBN.out hb)) (fun _ => ?_)⟩;clear hK K;(try simp only [Act.put, sA, sB, sC]);replace HG1 := Lib.hid (HG1.out.up hb);replace HA5 := Lib.hid ((hb.block _ (bx_lt HA5.out)).trans HA5.out)
       have HG3 := Lib.hid (hG.low HBN.out.size);replace HBN := Lib.hid (below_step HBN.out hb);clear hb hG;refine wpAnyH_ready (rs := [4]) (by kernel_rfl) (by simp) ?_;refine (AllReadyH.cons (o := { dst := some 11, op := Op.alloc 38, type := 0, pos := "law.go:220", after := #[], guard := none }) rfl (fun K hK => ?_) AllReadyH.nil);go_simp;refine hK.out _ _ (HS.out _ (below_alloc HBN.out _)) (fun _ => ?_);clear hK K;(try simp only [Act.put, sA, sB, sC]);have hb := below_alloc (Below.refl _ u3) (.cells zeroC 38);have hz : (u3.alloc (.cells zeroC 38)).heap[u3.heap.size]? = some (.cells zeroC 38 (0, 0)) := hpn _ rfl;obtain ⟨b4, hbe⟩ : ∃ b, u3.heap.size = b := ⟨_, rfl⟩;(try simp only [hbe]);rw [hbe] at hz
       have HL4 : Hid (w0.heap.size ≤ b4) := Lib.hid (by rw [← hbe]; exact HBN.out.size)
       have HNE : Hid (b4 ≠ b5) := Lib.hid (by have := bx_lt HA5.out; omega)
       replace HG1 := Lib.hid (HG1.out.up hb);replace HG3 := Lib.hid (HG3.out.up hb);replace HA5 := Lib.hid ((hb.block _ (bx_lt HA5.out)).trans HA5.out);have HA4 := Lib.hid hz;replace HBN := Lib.hid (below_step HBN.out hb);clear hb hz hbe;have hzw : u3.alloc (.cells #[.int .i64 0, .slice none 0 0, .slice none 0 0, .slice none 0 0, .int .i64 0, .bool false, .slice none 0 0, .int .i64 0, .int .i64 0] 38) = u3.alloc (.cells zeroC 38) := rfl;(try rw [hzw]);clear hzw;generalize u3.alloc (.cells zeroC 38) = u4 at *;rotate_left 1;go_simp;refine hK.out _ _ (HS.out _ (below_alloc HBN.out _)) (fun _ => ?_);clear hK K;(try simp only [Act.put, sA, sB, sC]);have hb := below_alloc (Below.refl _ u2) (.cells zeroC 38);have hz : (u2.alloc (.cells zeroC 38)).heap[u2.heap.size]? = some (.cells zeroC 38 (0, 0)) := hpn _ rfl;obtain ⟨b4, hbe⟩ : ∃ b, u2.heap.size = b := ⟨_, rfl⟩;(try simp only [hbe])
       rw [hbe] at hz
       have HL4 : Hid (w0.heap.size ≤ b4) := Lib.hid (by rw [← hbe]; exact HBN.out.size)
       have HNE : Hid (b4 ≠ b5) := Lib.hid (by have := bx_lt HA5.out; omega)
       replace HG1 := Lib.hid (HG1.out.up hb);replace HA5 := Lib.hid ((hb.block _ (bx_lt HA5.out)).trans HA5.out);have HA4 := Lib.hid hz;replace HBN := Lib.hid (below_step HBN.out hb);clear hb hz hbe;have hzw : u2.alloc (.cells #[.int .i64 0, .slice none 0 0, .slice none 0 0, .slice none 0 0, .int .i64 0, .bool false, .slice none 0 0, .int .i64 0, .int .i64 0] 38) = u2.alloc (.cells zeroC 38) := rfl;(try rw [hzw]);clear hzw;generalize u2.alloc (.cells zeroC 38) = u3 at *;refine wpAnyH_ready (rs := [3]) (by kernel_rfl) (by simp) ?_;refine (AllReadyH.cons (o := { dst := some 69, op := Op.call { callee := Callee.value (Operand.func 11), args := #[Operand.tmp 68], argTypes := #[27] }, type := 38, pos := "law.go:220", after := #[{ on := 2, ground := Ground.data }, { on := 1, ground := Ground.chain }], guard := none }) rfl (fun K hK => ?_) AllReadyH.nil)
       refine step_call_g rfl 11 _ _ #[.agg (x2.cells d0 d1 d2 k0 k1 k2)] rfl rfl (enters_of Tryz.func11 (by kernel_rfl) rfl) ((HM2.out u3 HBN.out).mono ?_);rintro e u4 ⟨y3, rfl, hG, hb⟩;refine ⟨_, rfl, hK.out _ _ (HS.out _ (below_step HBN.out hb)) (fun _ => ?_)⟩;clear hK K;(try simp only [Act.put, sA, sB, sC]);replace HG1 := Lib.hid (HG1.out.up hb);replace HA4 := Lib.hid ((hb.block _ (bx_lt HA4.out)).trans HA4.out);replace HA5 := Lib.hid ((hb.block _ (bx_lt HA5.out)).trans HA5.out);have HG3 := Lib.hid (hG.low HBN.out.size);replace HBN := Lib.hid (below_step HBN.out hb);clear hb hG;rotate_left 1;go_simp;refine hK.out _ _ (HS.out _ (below_alloc HBN.out _)) (fun _ => ?_);clear hK K;(try simp only [Act.put, sA, sB, sC]);have hb := below_alloc (Below.refl _ u1) (.cells zeroC 38);have hz : (u1.alloc (.cells zeroC 38)).heap[u1.heap.size]? = some (.cells zeroC 38 (0, 0)) := hpn _ rfl
       obtain ⟨b4, hbe⟩ : ∃ b, u1.heap.size = b := ⟨_, rfl⟩;(try simp only [hbe]);rw [hbe] at hz
       have HL4 : Hid (w0.heap.size ≤ b4) := Lib.hid (by rw [← hbe]; exact HBN.out.size)
       have HNE : Hid (b4 ≠ b5) := Lib.hid (by have := bx_lt HA5.out; omega)
       replace HA5 := Lib.hid ((hb.block _ (bx_lt HA5.out)).trans HA5.out);have HA4 := Lib.hid hz;replace HBN := Lib.hid (below_step HBN.out hb);clear hb hz hbe;have hzw : u1.alloc (.cells #[.int .i64 0, .slice none 0 0, .slice none 0 0, .slice none 0 0, .int .i64 0, .bool false, .slice none 0 0, .int .i64 0, .int .i64 0] 38) = u1.alloc (.cells zeroC 38) := rfl;(try rw [hzw]);clear hzw;generalize u1.alloc (.cells zeroC 38) = u2 at *;refine wpAnyH_ready (rs := [1]) (by kernel_rfl) (by simp) ?_;refine (AllReadyH.cons (o := { dst := some 67, op := Op.call { callee := Callee.value (Operand.func 11), args := #[Operand.tmp 66], argTypes := #[27] }, type := 38, pos := "law.go:220", after := #[{ on := 0, ground := Ground.data }], guard := none }) rfl (fun K hK => ?_) AllReadyH.nil)
       refine step_call_g rfl 11 _ _ #[.agg (x.cells a0 a1 a2 c0 c1 c2)] rfl rfl (enters_of Tryz.func11 (by kernel_rfl) rfl) ((HM1.out u2 HBN.out).mono ?_);rintro e u3 ⟨y1, rfl, hG, hb⟩;refine ⟨_, rfl, hK.out _ _ (HS.out _ (below_step HBN.out hb)) (fun _ => ?_)⟩;clear hK K;(try simp only [Act.put, sA, sB, sC]);replace HA4 := Lib.hid ((hb.block _ (bx_lt HA4.out)).trans HA4.out);replace HA5 := Lib.hid ((hb.block _ (bx_lt HA5.out)).trans HA5.out);have HG1 := Lib.hid (hG.low HBN.out.size);replace HBN := Lib.hid (below_step HBN.out hb);clear hb hG;refine wpAnyH_ready (rs := [3]) (by kernel_rfl) (by simp) ?_
       refine (AllReadyH.cons (o := { dst := some 69, op := Op.call { callee := Callee.value (Operand.func 11), args := #[Operand.tmp 68], argTypes := #[27] }, type := 38, pos := "law.go:220", after := #[{ on := 2, ground := Ground.data }, { on := 1, ground := Ground.chain }], guard := none }) rfl (fun K hK => ?_) AllReadyH.nil);refine step_call_g rfl 11 _ _ #[.agg (x2.cells d0 d1 d2 k0 k1 k2)] rfl rfl (enters_of Tryz.func11 (by kernel_rfl) rfl) ((HM2.out u3 HBN.out).mono ?_);rintro e u4 ⟨y3, rfl, hG, hb⟩;refine ⟨_, rfl, hK.out _ _ (HS.out _ (below_step HBN.out hb)) (fun _ => ?_)⟩;clear hK K;(try simp only [Act.put, sA, sB, sC]);replace HG1 := Lib.hid (HG1.out.up hb);replace HA4 := Lib.hid ((hb.block _ (bx_lt HA4.out)).trans HA4.out);replace HA5 := Lib.hid ((hb.block _ (bx_lt HA5.out)).trans HA5.out);have HG3 := Lib.hid (hG.low HBN.out.size)
       replace HBN := Lib.hid (below_step HBN.out hb);clear hb hG;rotate_left 1
       all_goals
         refine wpAnyH_ready (rs := [6]) (by kernel_rfl) (by simp) ?_;refine AllReadyH.cons (o := { dst := none, op := Op.store 38 (Operand.tmp 11) (Operand.tmp 67), type := 0, pos := "law.go:220", after := #[{ on := 4, ground := Ground.data }, { on := 1, ground := Ground.data }, { on := 3, ground := Ground.chain }, { on := 0, ground := Ground.phase }, { on := 1, ground := Ground.phase }, { on := 2, ground := Ground.textOnly Departure.lateStores }, { on := 3, ground := Ground.textOnly Departure.lateStoresUnsure }, { on := 4, ground := Ground.phase }, { on := 5, ground := Ground.phase }], guard := none }) rfl (fun K hK => ?_) AllReadyH.nil;refine step_store_game rfl (.tmp 11) (.tmp 67) rfl b4 (madeD x) y1 rfl rfl zeroC HA4.out rfl ?_;have hal := setRow_alt u4 b4 ((madeD x).cells y1)
         have hbs := HBN.out.trans (hal.below HBN.out.size (fun k hk => by have hk : k = b4 := hk; have := HL4.out; omega))
         refine hK.out _ _ (HS.out _ hbs) (fun _ => ?_);clear hK K;(try simp only [Act.put]);replace HBN := Lib.hid hbs
         replace HG1 := Lib.hid (HG1.out.off hal (fun k hk => by have hk : k = b4 := hk; subst hk; exact ⟨_, _, HA4.out⟩))
         replace HG3 := Lib.hid (HG3.out.off hal (fun k hk => by have hk : k = b4 := hk; subst hk; exact ⟨_, _, HA4.out⟩))
         have HB4 := Lib.hid (setRow_heap u4 b4 _ ((madeD x).cells y1) _ _ HA4.out);replace HA5 := Lib.hid ((hal.block b5 (bx_lt HA5.out) (fun e => HNE.out e.symm)).trans HA5.out);clear hal hbs;generalize u4.setRow b4 ((madeD x).cells y1) = u5 at *;refine wpAnyH_ready (rs := [7]) (by kernel_rfl) (by simp) ?_;refine AllReadyH.cons (o := { dst := none, op := Op.store 38 (Operand.tmp 12) (Operand.tmp 69), type := 0, pos := "law.go:220", after := #[{ on := 5, ground := Ground.data }, { on := 3, ground := Ground.data }, { on := 6, ground := Ground.chain }, { on := 0, ground := Ground.phase }, { on := 1, ground := Ground.phase }, { on := 2, ground := Ground.phase }, { on := 3, ground := Ground.phase }, { on := 4, ground := Ground.phase }, { on := 5, ground := Ground.phase }, { on := 6, ground := Ground.phase }], guard := none }) rfl (fun K hK => ?_) AllReadyH.nil
         refine step_store_game rfl (.tmp 12) (.tmp 69) rfl b5 (madeD x2) y3 rfl rfl zeroC HA5.out rfl ?_;have hal := setRow_alt u5 b5 ((madeD x2).cells y3)
         have hbs := HBN.out.trans (hal.below HBN.out.size (fun k hk => by have hk : k = b5 := hk; have := HL5.out; omega))
         refine hK.out _ _ (HS.out _ hbs) (fun _ => ?_);clear hK K;(try simp only [Act.put]);replace HBN := Lib.hid hbs
         replace HG1 := Lib.hid (HG1.out.off hal (fun k hk => by have hk : k = b5 := hk; subst hk; exact ⟨_, _, HA5.out⟩))
         replace HG3 := Lib.hid (HG3.out.off hal (fun k hk => by have hk : k = b5 := hk; subst hk; exact ⟨_, _, HA5.out⟩))
         have HB5 := Lib.hid (setRow_heap u5 b5 _ ((madeD x2).cells y3) _ _ HA5.out);replace HB4 := Lib.hid ((hal.block b4 (bx_lt HB4.out) (fun e => HNE.out e)).trans HB4.out);clear hal hbs;generalize u5.setRow b5 ((madeD x2).cells y3) = u6 at *;refine wpAnyH_done (by kernel_rfl) ?_ _;have HT : Hid (TwoMade w0 x x2 b4 b5 y1 y3 u6) := Lib.hid ⟨HNE.out, HL4.out, HL5.out, HB4.out, HB5.out, HG1.out, HG3.out, HBN.out⟩
         go_wp2_with fail
         go_meet
         exact ⟨b4, b5, y1, y3, rfl, rfl, HT.out⟩
     case rest =>
       obtain ⟨b11, b12, y, y2, e1, e2, hT⟩ := hcut;have HSZ := Lib.hid HB0.out.size;subst e1;subst e2;have HT := Lib.hid hT;have HBC := Lib.hid (below_step HB0.out hT.b);clear HX1 HX2 HM1 HM2 HB0 hT;obtain ⟨g, hge⟩ : ∃ g, madeD x = g := ⟨_, rfl⟩;obtain ⟨B, hBe⟩ : ∃ B, (madeD x2).b = B := ⟨_, rfl⟩;have HGE := Lib.hid hge;have HBE := Lib.hid hBe;rw [hge] at HV1;have hx11 := HT.out.h8;have hx12 := HT.out.h9;unfold GameD.cells at hx11 hx12;rw [hge] at hx11;rw [hBe] at hx12;clear hge hBe;have HX11 := Lib.hid hx11;have q0 := bx_cell hx12 0 rfl;have q1 := bx_cell hx12 1 rfl;have q2 := bx_cell hx12 2 rfl;have p0 := bx_cell hx11 0 rfl;have p1 := bx_cell hx11 1 rfl;have p2 := bx_cell hx11 2 rfl;have f0 := bx_frozen hx11 0;have f1 := bx_frozen hx11 1;have f2 := bx_frozen hx11 2;clear hx11 hx12;go_upto_region 16 with (fail);clear q0 q1 q2 p0 p1 p2 f0 f1 f2
       have hal : Alters (fun k => k = b11) wc (((wc.setCell ⟨b11, 0, none⟩ (.int .i64 B.cells)).setCell ⟨b11, 1, none⟩ (.slice y2.an B.next.length y2.cn)).setCell ⟨b11, 2, none⟩ (.slice y2.at_ B.turn.length y2.ct)) := ((alters_cell wc b11 0 (.int .i64 B.cells)).trans (alters_cell (wc.setCell ⟨b11, 0, none⟩ (.int .i64 B.cells)) b11 1 (.slice y2.an B.next.length y2.cn))).trans (alters_cell ((wc.setCell ⟨b11, 0, none⟩ (.int .i64 B.cells)).setCell ⟨b11, 1, none⟩ (.slice y2.an B.next.length y2.cn)) b11 2 (.slice y2.at_ B.turn.length y2.ct))
       have hXA : (((wc.setCell ⟨b11, 0, none⟩ (.int .i64 B.cells)).setCell ⟨b11, 1, none⟩ (.slice y2.an B.next.length y2.cn)).setCell ⟨b11, 2, none⟩ (.slice y2.at_ B.turn.length y2.ct)).heap[b11]? = some (.cells #[.int .i64 B.cells, .slice y2.an B.next.length y2.cn, .slice y2.at_ B.turn.length y2.ct, .slice y.ak g.kinds.length y.ck, .int .i64 g.rights, .bool g.must, .slice y.ac g.clauses.length y.cc, .int .i64 g.blocked, .int .i64 g.endless] 38 (0, 0)) := (bx_set_ (bx_set_ (bx_set_ HX11.out 0 _) 1 _) 2 _).trans (by simp)
       have hm8 := (HT.out.m8.off hal (fun k hk => by have hk : k = b11 := hk; rw [hk]; exact ⟨_, _, HT.out.h8⟩)).game
       have hm9 := (HT.out.m9.off hal (fun k hk => by have hk : k = b11 := hk; rw [hk]; exact ⟨_, _, HT.out.h8⟩)).game
       rw [HGE.out] at hm8
       have hGA : GameIn (((wc.setCell ⟨b11, 0, none⟩ (.int .i64 B.cells)).setCell ⟨b11, 1, none⟩ (.slice y2.an B.next.length y2.cn)).setCell ⟨b11, 2, none⟩ (.slice y2.at_ B.turn.length y2.ct)).heap.size (((wc.setCell ⟨b11, 0, none⟩ (.int .i64 B.cells)).setCell ⟨b11, 1, none⟩ (.slice y2.an B.next.length y2.cn)).setCell ⟨b11, 2, none⟩ (.slice y2.at_ B.turn.length y2.ct)) { y with an := y2.an, cn := y2.cn, at_ := y2.at_, ct := y2.ct } (onB g B) := ⟨by have := hm9.board; rw [HBE.out] at this; exact this, hm8.kinds, hm8.clauses⟩
       have HBW := Lib.hid (HBC.out.trans (hal.below HBC.out.size (fun k hk => by have hk : k = b11 := hk; rw [hk]; exact Nat.le_trans HSZ.out HT.out.l8)))
       clear HX11 HT HBC hal hm8 hm9 HGE HBE;generalize ((wc.setCell ⟨b11, 0, none⟩ (.int .i64 B.cells)).setCell ⟨b11, 1, none⟩ (.slice y2.an B.next.length y2.cn)).setCell ⟨b11, 2, none⟩ (.slice y2.at_ B.turn.length y2.ct) = wf at *;clear HSZ;have HXA := Lib.hid hXA;have HGB := Lib.hid (show Held wf.heap.size wf y2.an y2.at_ B from hGA.board);have HGK := Lib.hid (show KindsIn wf.heap.size wf y.ak g.kinds from hGA.kinds);have HGC := Lib.hid (show ClausesIn wf.heap.size wf y.ac g.clauses from hGA.clauses);have HON := Lib.hid (on_valid HV1.out B);have HBD := Lib.hid (validG_bounds HV1.out)
       have HVA : Hid (∀ W, Below wf.heap.size wf W → Calls Tryz.prog 24 #[.agg #[.int .i64 B.cells, .slice y2.an B.next.length y2.cn, .slice y2.at_ B.turn.length y2.ct, .slice y.ak g.kinds.length y.ck, .int .i64 g.rights, .bool g.must, .slice y.ac g.clauses.length y.cc, .int .i64 g.blocked, .int .i64 g.endless]] W fun e w' => e = .returned (.bool (validG (onB g B))) ∧ Below W.heap.size W w') := Lib.hid (fun W hW => gvalid_any (onB g B) { y with an := y2.an, cn := y2.cn, at_ := y2.at_, ct := y2.ct } wf.heap.size W hW.size (hGA.up (Nat.le_refl _) hW) (HL.out.up (below_step HBW.out hW)).signs);rw [HON.out] at HVA;have HBV := Lib.hid (bvalid_all B y2.an y2.at_ y2.cn y2.ct wf.heap.size wf (Nat.le_refl _) HGB.out);have hkl : g.kinds.length ≤ 6 := HBD.out.kinds.2;have hcl : g.clauses.length ≤ 6 := HBD.out.clauses;obtain ⟨v0, hv0⟩ : ∃ v, validS B = v := ⟨_, rfl⟩;rw [hv0] at HBV HVA
       have HKD : Hid (∀ k, kOk g B k = k.progs.all (pOk g B)) := Lib.hid (fun _ => rfl);have HPD : Hid (∀ p, pOk g B p = validP p (B.next.length : Int) (g.kinds.length : Int) g.rights) := Lib.hid (fun _ => rfl);have HCD : Hid (∀ c, cOk B c = ((c.cond != 2) || decide (c.n < B.cells))) := Lib.hid (fun _ => rfl);generalize kOk g B = kf at *;generalize pOk g B = pf at *;generalize cOk B = cf at *;clear hGA hv0 HON HGB HV1;have q0 := bx_cell hXA 0 rfl;have q1 := bx_cell hXA 1 rfl;have q2 := bx_cell hXA 2 rfl;have q3 := bx_cell hXA 3 rfl;have q4 := bx_cell hXA 4 rfl;have q5 := bx_cell hXA 5 rfl;have q6 := bx_cell hXA 6 rfl;have q7 := bx_cell hXA 7 rfl;have q8 := bx_cell hXA 8 rfl;clear hXA
       go_wp2_with fail
       refine HBV.out.mono ?_;rintro e w5 ⟨rfl, hb5⟩;clear HBV q0 q1 q2 q3 q4 q5 q6 q7 q8;have HX5 := Lib.hid ((hb5.block _ (bx_lt HXA.out)).trans HXA.out);have HB5 := Lib.hid hb5;clear hb5 HXA;have q3 := bx_cell HX5.out 3 rfl;go_wp2;clear q3
       go_loopw [13, 14] (fun t i wr => ∃ q : Nat, q ≤ g.kinds.length ∧ i = .int .i64 (q : Int) ∧ t = .bool (v0 && (g.kinds.take q).all kf) ∧ Hid (Below w5.heap.size w5 wr)) (fun _ i _ => g.kinds.length - (intOf i).toNat)
       case atStart => exact ⟨0, Nat.zero_le _, rfl, by simp, Lib.hid (Below.refl _ _)⟩
       case round =>
         obtain ⟨q, hq, rfl, rfl, HBR⟩ := hrel;have hxr := (HBR.out.block _ (bx_lt HX5.out)).trans HX5.out;have HXR := Lib.hid hxr;have q3 := bx_cell hxr 3 rfl;clear hxr
         by_cases hlt : q < g.kinds.length
         case pos =>
           have t3 : decide ((q : Int) < (g.kinds.length : Int)) = true := by rw [decide_eq_true_eq]; omega
           have b3 : (0 : Int) ≤ (q : Int) := by omega
           have b4 : (q : Int) < (g.kinds.length : Int) := by omega
           have hnr : wf.heap.size ≤ wr.heap.size := Nat.le_trans HB5.out.size HBR.out.size;obtain ⟨kb, ko, aj, cj, hak, _, _, z1, hp, _⟩ := (HGK.out.up (Nat.le_refl _) (below_step HB5.out HBR.out)).at_ hlt;have HAT := Lib.hid (all_take kf g.kinds q hlt);have HKQ := Lib.hid (HKD.out (g.kinds[q]'hlt));have hpl := (HBD.out.kind _ (List.getElem_mem hlt)).2;generalize g.kinds[q]'hlt = kd at *;generalize kd.progs = ps at *;obtain ⟨A, hA⟩ : ∃ A, (v0 && (g.kinds.take q).all kf) = A := ⟨_, rfl⟩;have HAE := Lib.hid hA;rw [hA];clear hA;obtain ⟨pn, hpn⟩ : ∃ pn, ps.length = pn := ⟨_, rfl⟩;rw [hpn] at z1 hpl;have HPN := Lib.hid hpn;have HPI := Lib.hid hp;have HZ1 := Lib.hid z1;have HAK := Lib.hid hak;have HNR := Lib.hid hnr;rw [hak] at q3;clear hpn hp hak hnr;go_wp2;clear q3 z1;generalize wr = wo at *
           go_loopw [13, 15] (fun t i wr => ∃ r : Nat, r ≤ pn ∧ i = .int .i64 (r : Int) ∧ t = .bool (A && (ps.take r).all pf) ∧ Hid (Below wo.heap.size wo wr)) (fun _ i _ => pn - (intOf i).toNat)
           case atStart => exact ⟨0, Nat.zero_le _, rfl, by simp, Lib.hid (Below.refl _ _)⟩
           case round =>
             obtain ⟨r, hr, rfl, rfl, HBI⟩ := hrel;have hxi := (HBI.out.block _ (bx_lt HXR.out)).trans HXR.out;have q1 := bx_cell hxi 1 rfl;have q3 := bx_cell hxi 3 rfl;have q4 := bx_cell hxi 4 rfl;rw [HAK.out] at q3;have z1 := cell_keep HBI.out HZ1.out;clear hxi
             by_cases hrt : r < pn
             case neg =>
               obtain rfl : r = pn := by omega
               have HAF : Hid ((A && (ps.take r).all pf) = (v0 && (g.kinds.take (q + 1)).all kf)) := Lib.hid (by
                 rw [HAT.out, HKQ.out, List.take_of_length_le (by rw [HPN.out]; exact Nat.le_refl _), ← Bool.and_assoc, HAE.out])
               generalize (A && (ps.take r).all pf) = AF at *;go_wp2
               go_roundw
               case rel => exact ⟨q + 1, by omega, by go_num, by rw [HAF.out], Lib.hid (below_step HBR.out HBI.out)⟩
               case measure => simp [intOf]; omega
             have t4 : decide ((r : Int) < (pn : Int)) = true := by rw [decide_eq_true_eq]; omega
             have b5 : (0 : Int) ≤ (r : Int) := by omega
             have b6 : (r : Int) < (pn : Int) := by omega
             have hrp : r < ps.length := by have := HPN.out; omega
             have hbi := below_step HB5.out (below_step HBR.out HBI.out);obtain ⟨pb, po, aq, cq, hja, _, p0, hPq⟩ := (HPI.out.up HNR.out HBI.out).at_ hrp;subst hja;have HPQ := Lib.hid (all_take pf ps r hrp);have hPV := HPD.out (ps[r]'hrp);have hni := Nat.le_trans HNR.out HBI.out.size
             have HRV : Hid (∀ W, Below wr.heap.size wr W → Calls Tryz.prog 27 #[.slice aq (ps[r]'hrp).length cq, .int .i64 (B.next.length : Int), .int .i64 (g.kinds.length : Int), .int .i64 g.rights] W fun e w' => e = .returned (.bool (pf (ps[r]'hrp))) ∧ Below W.heap.size W w') := Lib.hid (fun W hW => by
               have := valid_any (ps[r]'hrp) aq cq (B.next.length : Int) (g.kinds.length : Int) g.rights wf.heap.size W (Nat.le_trans hni hW.size) (hPq.up hni hW) (HL.out.up (below_step HBW.out (below_step hbi hW))).signs;rw [← hPV] at this;exact this)
             generalize pf (ps[r]'hrp) = vr at *;generalize (ps[r]'hrp).length = lq at *;have hC : PaC wr b11 kb (ko + q * 3 + 1) pb (po + r) _ _ _ _ _ wr := ⟨Below.refl _ _, q1, q3, q4, z1, p0⟩;have hC2 := hC.up (Below.refl _ _).drew;have HPE : Hid ((A && (ps.take (r + 1)).all pf) = ((A && (ps.take r).all pf) && vr)) := Lib.hid (by rw [HPQ.out, Bool.and_assoc]);clear hC hPV hPq hrp hni hbi HPQ;generalize (A && (ps.take r).all pf) = A2 at *;go_upto_region 23 with (fail);clear q1 q3 q4 z1 p0;refine wp_region_quiet (C := PaC wr b11 kb (ko + q * 3 + 1) pb (po + r) _ _ _ _ _) (by kernel_rfl) (by kernel_rfl) hC2 ?_;clear hC2;dsimp only
             cases A2 with
             | false =>
               iterate 2
                 refine wpQuiet_val (v := ?_) (by rfl) ?_ ?_;rotate_left
                 · ((intro W hW; (try cases hW); go_simp); try with_reducible rfl)
                 (try simp only [Act.put, sA, sB, sC])
               iterate 19
                 refine wpQuiet_off (by rfl) ?_;(try simp only [Act.put, sA, sB, sC])
               iterate 2
                 refine wpQuiet_val (v := ?_) (by rfl) ?_ ?_;rotate_left
                 · ((intro W hW; (try cases hW); go_simp); try with_reducible rfl)
                 (try simp only [Act.put, sA, sB, sC])
               refine wpQuiet_nil (fun w6 hW => ?_);have HB6 := Lib.hid hW.b;clear hW;go_wp2
               go_roundw
               case rel => exact ⟨r + 1, by omega, by go_num, by rw [HPE.out]; rfl, Lib.hid (below_step HBI.out HB6.out)⟩
               case measure => simp [intOf]; omega
             | true =>
               iterate 20
                 refine wpQuiet_val (v := ?_) (by rfl) ?_ ?_;rotate_left
                 · ((intro W hW; (try cases hW); go_simp); try with_reducible rfl)
                 (try simp only [Act.put, sA, sB, sC])
               refine wpQuiet_val (v := .bool vr) (by rfl) (fun W hW => ?_) ?_
               · go_simp
                 exact (HRV.out W hW.b).mono fun e w' ⟨he, hb⟩ => ⟨he, hW.up hb⟩
               (try simp only [Act.put, sA, sB, sC])
               iterate 2
                 refine wpQuiet_val (v := ?_) (by rfl) ?_ ?_;rotate_left
                 · ((intro W hW; (try cases hW); go_simp); try with_reducible rfl)
                 (try simp only [Act.put, sA, sB, sC])
               refine wpQuiet_nil (fun w6 hW => ?_);have HB6 := Lib.hid hW.b;clear hW;go_wp2
               go_roundw
               case rel => exact ⟨r + 1, by omega, by go_num, by rw [HPE.out, Bool.true_and], Lib.hid (below_step HBI.out HB6.out)⟩
               case measure => simp [intOf]; omega
         obtain rfl : q = g.kinds.length := by omega
         have HA1 : Hid ((v0 && (g.kinds.take g.kinds.length).all kf) = (v0 && g.kinds.all kf)) := Lib.hid (by rw [List.take_length]);rw [HA1.out];obtain ⟨A, hA⟩ : ∃ A, (v0 && g.kinds.all kf) = A := ⟨_, rfl⟩;have HAE := Lib.hid hA;rw [hA];clear hA HA1 hlt hq;have q6 := bx_cell HXR.out 6 rfl;go_wp2;clear q3 q6;generalize wr = wo at *
         go_loopw [13, 16] (fun t i wr => ∃ q : Nat, q ≤ g.clauses.length ∧ i = .int .i64 (q : Int) ∧ t = .bool (A && (g.clauses.take q).all cf) ∧ Hid (Below wo.heap.size wo wr)) (fun _ i _ => g.clauses.length - (intOf i).toNat)
         case atStart => exact ⟨0, Nat.zero_le _, rfl, by simp, Lib.hid (Below.refl _ _)⟩
         case round =>
           obtain ⟨q, hq, rfl, rfl, HBI⟩ := hrel;have hxi := (HBI.out.block _ (bx_lt HXR.out)).trans HXR.out;have hbi := below_step HB5.out (below_step HBR.out HBI.out)
           by_cases hlt : q < g.clauses.length
           case pos =>
             have q0 := bx_cell hxi 0 rfl;have q6 := bx_cell hxi 6 rfl;clear hxi
             have t3 : decide ((q : Int) < (g.clauses.length : Int)) = true := by rw [decide_eq_true_eq]; omega
             have b3 : (0 : Int) ≤ (q : Int) := by omega
             have b4 : (q : Int) < (g.clauses.length : Int) := by omega
             obtain ⟨cb, co, hac, _, z0, _, z2, _⟩ := (HGC.out.up (Nat.le_refl _) hbi).at_ hlt;rw [hac] at q6;have HAT := Lib.hid (all_take cf g.clauses q hlt);have hcd := HCD.out (g.clauses[q]'hlt);generalize g.clauses[q]'hlt = cd at *;obtain ⟨cc0, cc1, cc2, cc3⟩ := cd;dsimp only at z0 z2 hcd;have HCQ : Hid ((A && (g.clauses.take (q + 1)).all cf) = ((A && (g.clauses.take q).all cf) && ((cc0 != 2) || decide (cc2 < B.cells)))) := Lib.hid (by rw [HAT.out, hcd, Bool.and_assoc]);have hC : PcC wr b11 cb (co + q * 4) _ _ _ _ wr := ⟨Below.refl _ _, q0, q6, z0, z2⟩;have hC2 := hC.up (Below.refl _ _).drew;clear hC hcd HAT hac hbi;generalize (A && (g.clauses.take q).all cf) = A2 at *;go_upto_region 27 with (fail);clear q0 q6 z0 z2;refine wp_region_quiet (C := PcC wr b11 cb (co + q * 4) _ _ _ _) (by kernel_rfl) (by kernel_rfl) hC2 ?_;clear hC2;dsimp only
             cases A2 with
             | false =>
               iterate 2
                 refine wpQuiet_val (v := ?_) (by rfl) ?_ ?_;rotate_left
                 · ((intro W hW; (try cases hW); go_simp); try with_reducible rfl)
                 (try simp only [Act.put, sA, sB, sC])
               iterate 19
                 refine wpQuiet_off (by rfl) ?_;(try simp only [Act.put, sA, sB, sC])
               iterate 2
                 refine wpQuiet_val (v := ?_) (by rfl) ?_ ?_;rotate_left
                 · ((intro W hW; (try cases hW); go_simp); try with_reducible rfl)
                 (try simp only [Act.put, sA, sB, sC])
               refine wpQuiet_nil (fun w6 hW => ?_);have HB6 := Lib.hid hW.b;clear hW;go_wp2
               go_roundw
               case rel => exact ⟨q + 1, by omega, by go_num, by rw [HCQ.out]; rfl, Lib.hid (below_step HBI.out HB6.out)⟩
               case measure => simp [intOf]; omega
             | true =>
               by_cases hc2 : cc0 = 2
               case neg =>
                 have u1 : (cc0 != 2) = true := by simpa using hc2
                 have HCZ : Hid ((true && ((cc0 != 2) || decide (cc2 < B.cells))) = true) := Lib.hid (by rw [u1]; rfl)
                 clear hc2
                 iterate 10
                   refine wpQuiet_val (v := ?_) (by rfl) ?_ ?_;rotate_left
                   · ((intro W hW; (try cases hW); go_simp); try with_reducible rfl)
                   (try simp only [Act.put, sA, sB, sC])
                 iterate 10
                   refine wpQuiet_off (by rfl) ?_;(try simp only [Act.put, sA, sB, sC])
                 iterate 3
                   refine wpQuiet_val (v := ?_) (by rfl) ?_ ?_;rotate_left
                   · ((intro W hW; (try cases hW); go_simp); try with_reducible rfl)
                   (try simp only [Act.put, sA, sB, sC])
                 refine wpQuiet_nil (fun w6 hW => ?_);have HB6 := Lib.hid hW.b;clear hW u1;go_wp2
                 go_roundw
                 case rel => exact ⟨q + 1, by omega, by go_num, by rw [HCQ.out, HCZ.out], Lib.hid (below_step HBI.out HB6.out)⟩
                 case measure => simp [intOf]; omega
               have u1 : (cc0 != 2) = false := by simpa using hc2
               obtain ⟨vq, hvq⟩ : ∃ v, decide (cc2 < B.cells) = v := ⟨_, rfl⟩
               have HCZ : Hid ((true && ((cc0 != 2) || decide (cc2 < B.cells))) = vq) := Lib.hid (by rw [u1, hvq]; rfl)
               clear hc2
               iterate 23
                 refine wpQuiet_val (v := ?_) (by rfl) ?_ ?_;rotate_left
                 · ((intro W hW; (try cases hW); go_simp); try with_reducible rfl)
                 (try simp only [Act.put, sA, sB, sC])
               refine wpQuiet_nil (fun w6 hW => ?_);have HB6 := Lib.hid hW.b;clear hW u1 hvq;go_wp2
               go_roundw
               case rel => exact ⟨q + 1, by omega, by go_num, by rw [HCQ.out, HCZ.out], Lib.hid (below_step HBI.out HB6.out)⟩
               case measure => simp [intOf]; omega
           obtain rfl : q = g.clauses.length := by omega
           have HFV : Hid ((A && (g.clauses.take g.clauses.length).all cf) = (v0 && (g.kinds.all kf && g.clauses.all cf))) := Lib.hid (by rw [List.take_length, ← HAE.out, Bool.and_assoc]);rw [HFV.out];have HVZ := Lib.hid (HVA.out wr hbi);have HBZ := Lib.hid (below_step HBW.out hbi);generalize (v0 && (g.kinds.all kf && g.clauses.all cf)) = fv at *;clear HVA hbi;have q0 := bx_cell hxi 0 rfl;have q1 := bx_cell hxi 1 rfl;have q2 := bx_cell hxi 2 rfl;have q3 := bx_cell hxi 3 rfl;have q4 := bx_cell hxi 4 rfl;have q5 := bx_cell hxi 5 rfl;have q6 := bx_cell hxi 6 rfl;have q7 := bx_cell hxi 7 rfl;have q8 := bx_cell hxi 8 rfl;clear hxi
           go_wp2_with fail
           refine HVZ.out.mono ?_;rintro e w7 ⟨rfl, hb7⟩;have HBY := Lib.hid (below_step HBZ.out hb7);clear hb7 q0 q1 q2 q3 q4 q5 q6 q7 q8 HVZ
           cases fv
           · go_wp2
             go_ret
             exact ⟨by first | rfl | simp, HBY.out⟩
           · go_wp2
             go_ret
             exact ⟨by first | rfl | simp, HBY.out⟩
end Go.Proofs.YtbmcngoeinginaaGreatDoor
