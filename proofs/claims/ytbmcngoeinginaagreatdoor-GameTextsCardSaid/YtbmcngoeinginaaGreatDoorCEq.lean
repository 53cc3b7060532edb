/-
 Two games compared, in the laws of games.
-/
import Derived.Test.YtbmcngoeinginaaGreatDoorCEqK
namespace Go.Proofs.YtbmcngoeinginaaGreatDoor
open Go Go.RowKit Go.Lib
attribute [local irreducible] Go.wpQuiet
noncomputable def eqG (g h : GameD) : Bool := @decide (g = h) (Classical.propDecidable _)
theorem eqG_yes {g h : GameD} (e : g = h) : eqG g h = true := by unfold eqG; exact @decide_eq_true _ (Classical.propDecidable _) e
theorem eqG_no {g h : GameD} (e : ¬ g = h) : eqG g h = false := by unfold eqG; exact @decide_eq_false _ (Classical.propDecidable _) e
structure Mild (g : GameD) : Prop where
 turn : g.b.turn.length ≤ 2000
 rows : ∀ r ∈ g.b.next, r.length ≤ 2000
 next : g.b.next.length ≤ 2000
 kinds : g.kinds.length ≤ 2000
 progs : ∀ k ∈ g.kinds, k.progs.length ≤ 2000
 steps : ∀ k ∈ g.kinds, ∀ p ∈ k.progs, p.length ≤ 2000
 clauses : g.clauses.length ≤ 2000
structure EnC (w : World) (qb j b1 o1 b2 o2 : Nat) (u v x y : Value) (W : World) : Prop where
 b : Below w.heap.size w W
 q1 : W.cell? ⟨qb, j, none⟩ = some u
 q2 : W.cell? ⟨qb + 1, j, none⟩ = some v
 x1 : W.cell? ⟨b1, o1, none⟩ = some x
 x2 : W.cell? ⟨b2, o2, none⟩ = some y
theorem EnC.up {w W W' : World} {qb j b1 o1 b2 o2 : Nat} {u v x y : Value} (h : EnC w qb j b1 o1 b2 o2 u v x y W) (hb : Below W.heap.size W W') : EnC w qb j b1 o1 b2 o2 u v x y W' := ⟨below_step h.b hb, cell_keep hb h.q1, cell_keep hb h.q2, cell_keep hb h.x1, cell_keep hb h.x2⟩
structure E3C (w : World) (qb j b1 o1 b2 o2 : Nat) (u v x0 x1 x2 y0 y1 y2 : Value) (W : World) : Prop where
 b : Below w.heap.size w W
 q1 : W.cell? ⟨qb, j, none⟩ = some u
 q2 : W.cell? ⟨qb + 1, j, none⟩ = some v
 a0 : W.cell? ⟨b1, o1, none⟩ = some x0
 a1 : W.cell? ⟨b1, o1 + 1, none⟩ = some x1
 a2 : W.cell? ⟨b1, o1 + 2, none⟩ = some x2
 d0 : W.cell? ⟨b2, o2, none⟩ = some y0
 d1 : W.cell? ⟨b2, o2 + 1, none⟩ = some y1
 d2 : W.cell? ⟨b2, o2 + 2, none⟩ = some y2
theorem E3C.up {w W W' : World} {qb j b1 o1 b2 o2 : Nat} {u v x0 x1 x2 y0 y1 y2 : Value} (h : E3C w qb j b1 o1 b2 o2 u v x0 x1 x2 y0 y1 y2 W) (hb : Below W.heap.size W W') : E3C w qb j b1 o1 b2 o2 u v x0 x1 x2 y0 y1 y2 W' :=
 ⟨below_step h.b hb, cell_keep hb h.q1, cell_keep hb h.q2, cell_keep hb h.a0, cell_keep hb h.a1, cell_keep hb h.a2, cell_keep hb h.d0, cell_keep hb h.d1, cell_keep hb h.d2⟩
structure E4C (w : World) (qb j b1 o1 b2 o2 : Nat) (u v x0 x1 x2 x3 y0 y1 y2 y3 : Value) (W : World) : Prop where
 b : Below w.heap.size w W
 q1 : W.cell? ⟨qb, j, none⟩ = some u
 q2 : W.cell? ⟨qb + 1, j, none⟩ = some v
 a0 : W.cell? ⟨b1, o1, none⟩ = some x0
 a1 : W.cell? ⟨b1, o1 + 1, none⟩ = some x1
 a2 : W.cell? ⟨b1, o1 + 2, none⟩ = some x2
 a3 : W.cell? ⟨b1, o1 + 3, none⟩ = some x3
 d0 : W.cell? ⟨b2, o2, none⟩ = some y0
 d1 : W.cell? ⟨b2, o2 + 1, none⟩ = some y1
 d2 : W.cell? ⟨b2, o2 + 2, none⟩ = some y2
 d3 : W.cell? ⟨b2, o2 + 3, none⟩ = some y3
theorem E4C.up {w W W' : World} {qb j b1 o1 b2 o2 : Nat} {u v x0 x1 x2 x3 y0 y1 y2 y3 : Value} (h : E4C w qb j b1 o1 b2 o2 u v x0 x1 x2 x3 y0 y1 y2 y3 W) (hb : Below W.heap.size W W') : E4C w qb j b1 o1 b2 o2 u v x0 x1 x2 x3 y0 y1 y2 y3 W' :=
 ⟨below_step h.b hb, cell_keep hb h.q1, cell_keep hb h.q2, cell_keep hb h.a0, cell_keep hb h.a1, cell_keep hb h.a2, cell_keep hb h.a3, cell_keep hb h.d0, cell_keep hb h.d1, cell_keep hb h.d2, cell_keep hb h.d3⟩
theorem clause_stood : Tryz.prog.stoodInHeld 70 = false := by kernel_rfl
theorem clause_guard : Tryz.prog.eqGuardType Tryz.prog.depth 70 = false := by kernel_rfl
theorem neq_clause (x0 x1 x2 x3 y0 y1 y2 y3 : Int) (W : World) : (binOp .neq 70 (.agg #[.int .i64 x0, .int .i64 x1, .int .i64 x2, .int .i64 x3]) (.agg #[.int .i64 y0, .int .i64 y1, .int .i64 y2, .int .i64 y3])).run Tryz.prog W = .ok (.bool (!(x0 == y0 && (x1 == y1 && (x2 == y2 && x3 == y3))))) W := by
 have ht : Tryz.prog.underlying 70 = some (.struct (Tryz.prog.fieldsOf 70)) := by kernel_rfl
 have h3 : Tryz.prog.underlying 3 = some (.int .i64) := Tryz.underlying3
 have hi : (Tryz.prog.info? 3).map (·.size) = some 1 := by kernel_rfl
 rw [run_neq_struct, run_equalIn_agg _ _ _ _ _ ht clause_stood]
 unfold Program.fieldsOf
 rw [Tryz.underlying70]
 go_simp
 by_cases h0 : x0 = y0 <;> by_cases h1 : x1 = y1 <;> by_cases h2 : x2 = y2 <;> by_cases h3 : x3 = y3 <;> simp [h0, h1, h2, h3]
theorem ext_of {α : Type} {l m : List α} {d : α} {n : Nat} (h1 : l.length = n) (h2 : m.length = n) (h : ∀ j, j < n → l[j]?.getD d = m[j]?.getD d) : l = m := by
 apply List.ext_getElem (by rw [h1, h2])
 intro j a b
 have := h j (by omega)
 rwa [List.getElem?_eq_getElem a, List.getElem?_eq_getElem b] at this
set_option maxRecDepth 100000 in
set_option maxHeartbeats 4000000 in
theorem gequal_any (g h : GameD) (x y : GPl) (N : Nat) (w : World) (hm : Mild g) (hm2 : Mild h) (hN : N ≤ w.heap.size) (hG : GameIn N w x g) (hH : GameIn N w y h) :
   Calls Tryz.prog 25 #[.agg (g.cells x), .agg (h.cells y)] w fun e w' => e = .returned (.bool (eqG g h)) ∧ Below w.heap.size w w' := by
 have HNO : Hid (¬ g = h → eqG g h = false) := Lib.hid eqG_no
 have HYES : Hid (g = h → eqG g h = true) := Lib.hid eqG_yes
 generalize eqG g h = R at *
 obtain ⟨⟨bc, nx, tu⟩, ks, ri, mu, cl, bl, en⟩ := g
 obtain ⟨⟨bc2, nx2, tu2⟩, ks2, ri2, mu2, cl2, bl2, en2⟩ := h
 obtain ⟨an, cn, aq, ct, ak, ck, ac, cc⟩ := x
 obtain ⟨an2, cn2, aq2, ct2, ak2, ck2, ac2, cc2⟩ := y
 obtain ⟨m1, m2, m3, m4, m5, m6, m7⟩ := hm
 obtain ⟨m8, m9, m10, m11, m12, m13, m14⟩ := hm2
 obtain ⟨⟨hb1, hb2⟩, hk1, hc1⟩ := hG
 obtain ⟨⟨hb3, hb4⟩, hk2, hc2⟩ := hH
 unfold GameD.cells
 dsimp only at *
 have HTU : Hid (∀ W, Below w.heap.size w W → Calls Tryz.prog 50 #[.slice aq tu.length ct, .slice aq2 tu2.length ct2] W fun e w' => e = .returned (.bool (decide (tu = tu2))) ∧ Below W.heap.size W w') := Lib.hid (fun W hW => lints_below tu tu2 aq aq2 ct ct2 N W (by unfold maxLen; omega) (hb2.up hN hW) (hb4.up hN hW))
 obtain ⟨lt, hlt⟩ : ∃ lt, tu.length = lt := ⟨_, rfl⟩
 obtain ⟨lt2, hlt2⟩ : ∃ lt2, tu2.length = lt2 := ⟨_, rfl⟩
 obtain ⟨ln, hln⟩ : ∃ ln, nx.length = ln := ⟨_, rfl⟩
 obtain ⟨ln2, hln2⟩ : ∃ ln2, nx2.length = ln2 := ⟨_, rfl⟩
 obtain ⟨lk, hlk⟩ : ∃ lk, ks.length = lk := ⟨_, rfl⟩
 obtain ⟨lk2, hlk2⟩ : ∃ lk2, ks2.length = lk2 := ⟨_, rfl⟩
 obtain ⟨lc, hlc⟩ : ∃ lc, cl.length = lc := ⟨_, rfl⟩
 obtain ⟨lc2, hlc2⟩ : ∃ lc2, cl2.length = lc2 := ⟨_, rfl⟩
 rw [hlt, hlt2] at HTU
 rw [hlt, hlt2, hln, hln2, hlk, hlk2, hlc, hlc2]
 rw [hln] at m3
 rw [hlk] at m4
 rw [hlc] at m7
 have HLN := Lib.hid hln
 have HLN2 := Lib.hid hln2
 have HLK := Lib.hid hlk
 have HLK2 := Lib.hid hlk2
 have HLC := Lib.hid hlc
 have HLC2 := Lib.hid hlc2
 have M2 := Lib.hid m2
 have M5 := Lib.hid m5
 have M6 := Lib.hid m6
 have M12 := Lib.hid m12
 have M13 := Lib.hid m13
 have HB1 := Lib.hid hb1
 have HB3 := Lib.hid hb3
 have HK1 := Lib.hid hk1
 have HK2 := Lib.hid hk2
 have HC1 := Lib.hid hc1
 have HC2 := Lib.hid hc2
 clear hlt hlt2 hln hln2 hlk hlk2 hlc hlc2 m1 m2 m5 m6 m8 m9 m10 m11 m12 m13 m14 hb1 hb2 hb3 hb4 hk1 hk2 hc1 hc2
 have hbA : Below w.heap.size w ((w.alloc (.cells #[.int .i64 bc, .slice an ln cn, .slice aq lt ct, .slice ak lk ck, .int .i64 ri, .bool mu, .slice ac lc cc, .int .i64 bl, .int .i64 en] 38)).alloc (.cells #[.int .i64 bc2, .slice an2 ln2 cn2, .slice aq2 lt2 ct2, .slice ak2 lk2 ck2, .int .i64 ri2, .bool mu2, .slice ac2 lc2 cc2, .int .i64 bl2, .int .i64 en2] 38)) := below_alloc (below_alloc (Below.refl _ w) _) _
 have hx1 : (((w.alloc (.cells #[.int .i64 bc, .slice an ln cn, .slice aq lt ct, .slice ak lk ck, .int .i64 ri, .bool mu, .slice ac lc cc, .int .i64 bl, .int .i64 en] 38)).alloc (.cells #[.int .i64 bc2, .slice an2 ln2 cn2, .slice aq2 lt2 ct2, .slice ak2 lk2 ck2, .int .i64 ri2, .bool mu2, .slice ac2 lc2 cc2, .int .i64 bl2, .int .i64 en2] 38))).heap[w.heap.size]? = some (.cells #[.int .i64 bc, .slice an ln cn, .slice aq lt ct, .slice ak lk ck, .int .i64 ri, .bool mu, .slice ac lc cc, .int .i64 bl, .int .i64 en] 38 (0, 0)) := bxo (bxn _ rfl)
 have hx2 : (((w.alloc (.cells #[.int .i64 bc, .slice an ln cn, .slice aq lt ct, .slice ak lk ck, .int .i64 ri, .bool mu, .slice ac lc cc, .int .i64 bl, .int .i64 en] 38)).alloc (.cells #[.int .i64 bc2, .slice an2 ln2 cn2, .slice aq2 lt2 ct2, .slice ak2 lk2 ck2, .int .i64 ri2, .bool mu2, .slice ac2 lc2 cc2, .int .i64 bl2, .int .i64 en2] 38))).heap[w.heap.size + 1]? = some (.cells #[.int .i64 bc2, .slice an2 ln2 cn2, .slice aq2 lt2 ct2, .slice ak2 lk2 ck2, .int .i64 ri2, .bool mu2, .slice ac2 lc2 cc2, .int .i64 bl2, .int .i64 en2] 38 (0, 0)) := bxn _ (by simp)
 go_enter Tryz.func25, Tryz.ntmps25
 go_upto_region 1 with (fail)
 generalize ((w.alloc (.cells #[.int .i64 bc, .slice an ln cn, .slice aq lt ct, .slice ak lk ck, .int .i64 ri, .bool mu, .slice ac lc cc, .int .i64 bl, .int .i64 en] 38)).alloc (.cells #[.int .i64 bc2, .slice an2 ln2 cn2, .slice aq2 lt2 ct2, .slice ak2 lk2 ck2, .int .i64 ri2, .bool mu2, .slice ac2 lc2 cc2, .int .i64 bl2, .int .i64 en2] 38)) = w1 at *
 have HBA := Lib.hid hbA
 have HX1 := Lib.hid hx1
 have HX2 := Lib.hid hx2
 have y0 := bx_cell hx1 0 rfl
 have y1 := bx_cell hx1 1 rfl
 have y2 := bx_cell hx1 2 rfl
 have y3 := bx_cell hx1 3 rfl
 have y4 := bx_cell hx1 4 rfl
 have y5 := bx_cell hx1 5 rfl
 have y6 := bx_cell hx1 6 rfl
 have y7 := bx_cell hx1 7 rfl
 have y8 := bx_cell hx1 8 rfl
 have z0 := bx_cell hx2 0 rfl
 have z1 := bx_cell hx2 1 rfl
 have z2 := bx_cell hx2 2 rfl
 have z3 := bx_cell hx2 3 rfl
 have z4 := bx_cell hx2 4 rfl
 have z5 := bx_cell hx2 5 rfl
 have z6 := bx_cell hx2 6 rfl
 have z7 := bx_cell hx2 7 rfl
 have z8 := bx_cell hx2 8 rfl
 clear hbA hx1 hx2
 by_cases he : bc = bc2
 case neg =>
   have HO : Hid (R = false) := Lib.hid (HNO.out (fun e => he (congrArg (fun g : GameD => g.b.cells) e)))
   have t1 : (bc != bc2) = true := by simpa using he
   have t2 : decide (bc = bc2) = false := by simpa using he
   clear he
   go_wp2
   go_ret
   exact ⟨by rw [HO.out]; rfl, HBA.out⟩
 subst he
 have HTU1 := Lib.hid (HTU.out w1 HBA.out)
 go_wp2_with fail
 refine HTU1.out.mono ?_
 rintro e w2 ⟨rfl, hbb⟩
 clear HTU HTU1 y0 y1 y2 y3 y4 y5 y6 y7 y8 z0 z1 z2 z3 z4 z5 z6 z7 z8
 have hx1 := (hbb.block _ (bx_lt HX1.out)).trans HX1.out
 have hx2 := (hbb.block _ (bx_lt HX2.out)).trans HX2.out
 have HBB := Lib.hid (below_step HBA.out hbb)
 clear hbb HX1 HX2 HBA
 have HX1 := Lib.hid hx1
 have HX2 := Lib.hid hx2
 have y0 := bx_cell hx1 0 rfl
 have y1 := bx_cell hx1 1 rfl
 have y2 := bx_cell hx1 2 rfl
 have y3 := bx_cell hx1 3 rfl
 have y4 := bx_cell hx1 4 rfl
 have y5 := bx_cell hx1 5 rfl
 have y6 := bx_cell hx1 6 rfl
 have y7 := bx_cell hx1 7 rfl
 have y8 := bx_cell hx1 8 rfl
 have z0 := bx_cell hx2 0 rfl
 have z1 := bx_cell hx2 1 rfl
 have z2 := bx_cell hx2 2 rfl
 have z3 := bx_cell hx2 3 rfl
 have z4 := bx_cell hx2 4 rfl
 have z5 := bx_cell hx2 5 rfl
 have z6 := bx_cell hx2 6 rfl
 have z7 := bx_cell hx2 7 rfl
 have z8 := bx_cell hx2 8 rfl
 clear hx1 hx2
 by_cases he : tu = tu2
 case neg =>
   have HO : Hid (R = false) := Lib.hid (HNO.out (fun e => he (congrArg (fun g : GameD => g.b.turn) e)))
   rw [show decide (tu = tu2) = false by simpa using he]
   clear he
   go_wp2
   go_ret
   exact ⟨by rw [HO.out]; rfl, HBB.out⟩
 rw [show decide (tu = tu2) = true by simpa using he]
 subst he
 by_cases he : ln = ln2
 case neg =>
   have HO : Hid (R = false) := Lib.hid (HNO.out (fun e => he (by rw [← HLN.out, ← HLN2.out]; exact congrArg (fun g : GameD => g.b.next.length) e)))
   have t1 : ((ln : Int) != (ln2 : Int)) = true := by simp; omega
   have t2 : decide ((ln : Int) = (ln2 : Int)) = false := by simp; omega
   clear he
   go_wp2
   go_ret
   exact ⟨by rw [HO.out]; rfl, HBB.out⟩
 subst he
 by_cases he : lk = lk2
 case neg =>
   have HO : Hid (R = false) := Lib.hid (HNO.out (fun e => he (by rw [← HLK.out, ← HLK2.out]; exact congrArg (fun g : GameD => g.kinds.length) e)))
   have t1 : ((lk : Int) != (lk2 : Int)) = true := by simp; omega
   have t2 : decide ((lk : Int) = (lk2 : Int)) = false := by simp; omega
   clear he
   go_wp2
   go_ret
   exact ⟨by rw [HO.out]; rfl, HBB.out⟩
 subst he
 by_cases he : lc = lc2
 case neg =>
   have HO : Hid (R = false) := Lib.hid (HNO.out (fun e => he (by rw [← HLC.out, ← HLC2.out]; exact congrArg (fun g : GameD => g.clauses.length) e)))
   have t1 : ((lc : Int) != (lc2 : Int)) = true := by simp; omega
   have t2 : decide ((lc : Int) = (lc2 : Int)) = false := by simp; omega
   clear he
   go_wp2
   go_ret
   exact ⟨by rw [HO.out]; rfl, HBB.out⟩
 subst he
 go_wp2
 clear y0 y1 y2 y3 y4 y5 y6 y7 y8 z0 z1 z2 z3 z4 z5 z6 z7 z8
 go_loopw [5] (fun i wr => ∃ q : Nat, q ≤ ln ∧ i = .int .i64 (q : Int) ∧ Hid (∀ j, j < q → nx[j]?.getD [] = nx2[j]?.getD []) ∧ Hid (Below w2.heap.size w2 wr)) (fun i _ => ln - (intOf i).toNat)
 case atStart => exact ⟨0, Nat.zero_le _, rfl, Lib.hid (fun j hj => absurd hj (Nat.not_lt_zero _)), Lib.hid (Below.refl _ _)⟩
 case round =>
   obtain ⟨q, hq, rfl, HALL, HBR⟩ := hrel
   have hx1 := (HBR.out.block _ (bx_lt HX1.out)).trans HX1.out
   have hx2 := (HBR.out.block _ (bx_lt HX2.out)).trans HX2.out
   have HBQ := Lib.hid (below_step HBB.out HBR.out)
   by_cases hlt : q < ln
   case pos =>
     have y1 := bx_cell hx1 1 rfl
     have z1 := bx_cell hx2 1 rfl
     have t3 : decide ((q : Int) < (ln : Int)) = true := by rw [decide_eq_true_eq]; omega
     have b3 : (0 : Int) ≤ (q : Int) := by omega
     have b4 : (q : Int) < (ln : Int) := by omega
     have hq1 : q < nx.length := by have := HLN.out; omega
     have hq2 : q < nx2.length := by have := HLN2.out; omega
     obtain ⟨e1, o1, aj, cj, ha1, _, x1, hp1⟩ := (HB1.out.up hN HBQ.out).at_ hq1
     obtain ⟨e2, o2, am, cm, ha2, _, x2, hp2⟩ := (HB3.out.up hN HBQ.out).at_ hq2
     have hNR : N ≤ wr.heap.size := Nat.le_trans hN HBQ.out.size
     subst ha1
     subst ha2
     have hpl := M2.out _ (List.getElem_mem hq1)
     rw [List.getElem?_eq_getElem hq1, Option.getD_some] at x1 hp1
     rw [List.getElem?_eq_getElem hq2, Option.getD_some] at x2 hp2
     have HQ1 : Hid (nx[q]?.getD [] = nx[q]) := Lib.hid (by rw [List.getElem?_eq_getElem hq1]; rfl)
     have HQ2 : Hid (nx2[q]?.getD [] = nx2[q]) := Lib.hid (by rw [List.getElem?_eq_getElem hq2]; rfl)
     generalize nx[q] = p at *
     generalize nx2[q] = p2 at *
     have HCA : Hid (∀ W, Below wr.heap.size wr W → Calls Tryz.prog 50 #[.slice aj p.length cj, .slice am p2.length cm] W fun e w' => e = .returned (.bool (decide (p = p2))) ∧ Below W.heap.size W w') := Lib.hid (fun W hW => lints_below p p2 aj am cj cm N W (by unfold maxLen; omega) (hp1.up hNR hW) (hp2.up hNR hW))
     obtain ⟨lp, hlp⟩ : ∃ lp, p.length = lp := ⟨_, rfl⟩
     obtain ⟨lp2, hlp2⟩ : ∃ lp2, p2.length = lp2 := ⟨_, rfl⟩
     rw [hlp, hlp2] at HCA
     rw [hlp] at x1
     rw [hlp2] at x2
     have hC : EnC wr w.heap.size 1 e1 (o1 + q) e2 (o2 + q) _ _ _ _ wr := ⟨Below.refl _ _, y1, z1, x1, x2⟩
     have hC2 := hC.up (Below.refl _ _).drew
     clear hC hlp hlp2 hp1 hp2 hx1 hx2 hq1 hq2 hpl
     go_upto_region 6 with (fail)
     clear y1 z1 x1 x2
     refine wp_region_quiet (C := EnC wr w.heap.size 1 e1 (o1 + q) e2 (o2 + q) _ _ _ _) (by kernel_rfl) (by kernel_rfl) hC2 ?_
     clear hC2
     dsimp only
     iterate 12
       refine wpQuiet_val (v := ?_) (by rfl) ?_ ?_
       rotate_left
       · ((intro W hW; (try cases hW); go_simp); try with_reducible rfl)
       (try simp only [Act.put, sA, sB, sC])
     refine wpQuiet_val (v := .bool (decide (p = p2))) (by rfl) (fun W hW => ?_) ?_
     · go_simp
       exact (HCA.out W hW.b).mono fun e w' ⟨he, hb⟩ => ⟨he, hW.up hb⟩
     (try simp only [Act.put, sA, sB, sC])
     by_cases he : p = p2
     case neg =>
       have HO : Hid (R = false) := Lib.hid (HNO.out (fun e => he (HQ1.out.symm.trans ((congrArg (fun g : GameD => g.b.next[q]?.getD []) e).trans HQ2.out))))
       rw [show decide (p = p2) = false by simpa using he]
       clear he
       refine wpQuiet_val (v := ?_) (by rfl) ?_ ?_
       rotate_left
       · ((intro W hW; (try cases hW); go_simp); try with_reducible rfl)
       (try simp only [Act.put, sA, sB, sC])
       refine wpQuiet_nil (fun w6 hW => ?_)
       have HBF := Lib.hid (below_step HBQ.out hW.b)
       clear hW
       go_wp2
       go_ret
       exact ⟨by rw [HO.out]; rfl, HBF.out⟩
     have HEP := Lib.hid he
     rw [show decide (p = p2) = true by simpa using he]
     clear he
     refine wpQuiet_val (v := ?_) (by rfl) ?_ ?_
     rotate_left
     · ((intro W hW; (try cases hW); go_simp); try with_reducible rfl)
     (try simp only [Act.put, sA, sB, sC])
     refine wpQuiet_nil (fun w6 hW => ?_)
     have HB6 := Lib.hid hW.b
     clear hW
     go_wp2
     go_roundw
     case rel => exact ⟨q + 1, by omega, by go_num, Lib.hid (fun j hj => by
       by_cases e : j = q
       · rw [e, HQ1.out, HQ2.out, HEP.out]
       · exact HALL.out j (by omega)), Lib.hid (below_step HBR.out HB6.out)⟩
     case measure => simp [intOf]; omega
   obtain rfl : q = ln := by omega
   have HNX : Hid (nx = nx2) := Lib.hid (ext_of HLN.out HLN2.out HALL.out)
   have y1 := bx_cell hx1 1 rfl
   have HY1 := Lib.hid hx1
   have HY2 := Lib.hid hx2
   clear hx1 hx2 HX1 HX2 HALL
   go_wp2
   clear y1
   generalize wr = wo at *
   clear hlt hq
   go_loopw [6] (fun i wr => ∃ q : Nat, q ≤ lk ∧ i = .int .i64 (q : Int) ∧ Hid (∀ j, j < q → ks[j]?.getD ⟨[], [], false⟩ = ks2[j]?.getD ⟨[], [], false⟩) ∧ Hid (Below wo.heap.size wo wr)) (fun i _ => lk - (intOf i).toNat)
   case atStart => exact ⟨0, Nat.zero_le _, rfl, Lib.hid (fun j hj => absurd hj (Nat.not_lt_zero _)), Lib.hid (Below.refl _ _)⟩
   case round =>
     obtain ⟨q, hq, rfl, HALL, HBI⟩ := hrel
     have hx1 := (HBI.out.block _ (bx_lt HY1.out)).trans HY1.out
     have hx2 := (HBI.out.block _ (bx_lt HY2.out)).trans HY2.out
     have HBW := Lib.hid (below_step HBQ.out HBI.out)
     by_cases hlt : q < lk
     case pos =>
       have y3 := bx_cell hx1 3 rfl
       have z3 := bx_cell hx2 3 rfl
       have t3 : decide ((q : Int) < (lk : Int)) = true := by rw [decide_eq_true_eq]; omega
       have b3 : (0 : Int) ≤ (q : Int) := by omega
       have b4 : (q : Int) < (lk : Int) := by omega
       have hq1 : q < ks.length := by have := HLK.out; omega
       have hq2 : q < ks2.length := by have := HLK2.out; omega
       obtain ⟨e1, o1, aj, cj, ha1, _, x0, x1, hp1, x2⟩ := (HK1.out.up hN HBW.out).at_ hq1
       obtain ⟨e2, o2, am, cm, ha2, _, u0, u1, hp2, u2⟩ := (HK2.out.up hN HBW.out).at_ hq2
       have hNR : N ≤ wr.heap.size := Nat.le_trans hN HBW.out.size
       subst ha1
       subst ha2
       have p1 := M5.out _ (List.getElem_mem hq1)
       have p2 := M12.out _ (List.getElem_mem hq2)
       have p3 := M6.out _ (List.getElem_mem hq1)
       have p4 := M13.out _ (List.getElem_mem hq2)
       have HQ1 : Hid (ks[q]?.getD ⟨[], [], false⟩ = ks[q]) := Lib.hid (by rw [List.getElem?_eq_getElem hq1]; rfl)
       have HQ2 : Hid (ks2[q]?.getD ⟨[], [], false⟩ = ks2[q]) := Lib.hid (by rw [List.getElem?_eq_getElem hq2]; rfl)
       generalize ks[q] = k at *
       generalize ks2[q] = k2 at *
       have HCA : Hid (∀ W, Below wr.heap.size wr W → Calls Tryz.prog 51 #[.agg #[.string ⟨k.name.toArray⟩, .slice aj k.progs.length cj, .bool k.keep], .agg #[.string ⟨k2.name.toArray⟩, .slice am k2.progs.length cm, .bool k2.keep]] W fun e w' => e = .returned (.bool (eqK k k2)) ∧ Below W.heap.size W w') := Lib.hid (fun W hW => ekinds_any k k2 aj am cj cm N W p1 p2 p3 p4 (Nat.le_trans hNR hW.size) (hp1.up hNR hW) (hp2.up hNR hW))
       have HKE := Lib.hid (eqK_iff k k2)
       generalize eqK k k2 = vb at *
       obtain ⟨nm, hnm⟩ : ∃ nm, k.name = nm := ⟨_, rfl⟩
       obtain ⟨nm2, hnm2⟩ : ∃ nm, k2.name = nm := ⟨_, rfl⟩
       obtain ⟨lp, hlp⟩ : ∃ nm, k.progs.length = nm := ⟨_, rfl⟩
       obtain ⟨lp2, hlp2⟩ : ∃ nm, k2.progs.length = nm := ⟨_, rfl⟩
       obtain ⟨kp, hkp⟩ : ∃ nm, k.keep = nm := ⟨_, rfl⟩
       obtain ⟨kp2, hkp2⟩ : ∃ nm, k2.keep = nm := ⟨_, rfl⟩
       rw [hnm, hnm2, hlp, hlp2, hkp, hkp2] at HCA
       rw [hnm] at x0
       rw [hlp] at x1
       rw [hkp] at x2
       rw [hnm2] at u0
       rw [hlp2] at u1
       rw [hkp2] at u2
       have hC : E3C wr w.heap.size 3 e1 (o1 + q * 3) e2 (o2 + q * 3) _ _ _ _ _ _ _ _ wr := ⟨Below.refl _ _, y3, z3, x0, x1, x2, u0, u1, u2⟩
       have hC2 := hC.up (Below.refl _ _).drew
       clear hC hnm hnm2 hlp hlp2 hkp hkp2 hp1 hp2 hx1 hx2 hq1 hq2 p1 p2 p3 p4
       go_upto_region 11 with (fail)
       clear y3 z3 x0 x1 x2 u0 u1 u2
       refine wp_region_quiet (C := E3C wr w.heap.size 3 e1 (o1 + q * 3) e2 (o2 + q * 3) _ _ _ _ _ _ _ _) (by kernel_rfl) (by kernel_rfl) hC2 ?_
       clear hC2
       dsimp only
       iterate 10
         refine wpQuiet_val (v := ?_) (by rfl) ?_ ?_
         rotate_left
         · ((intro W hW; (try cases hW); go_simp); try with_reducible rfl)
         (try simp only [Act.put, sA, sB, sC])
       refine wpQuiet_val (v := .bool vb) (by rfl) (fun W hW => ?_) ?_
       · go_simp
         exact (HCA.out W hW.b).mono fun e w' ⟨he, hb⟩ => ⟨he, hW.up hb⟩
       (try simp only [Act.put, sA, sB, sC])
       cases vb with
       | false =>
         have HO : Hid (R = false) := Lib.hid (HNO.out (fun e => by
           have := HKE.out.2 (HQ1.out.symm.trans ((congrArg (fun g : GameD => g.kinds[q]?.getD ⟨[], [], false⟩) e).trans HQ2.out))
           cases this))
         refine wpQuiet_val (v := ?_) (by rfl) ?_ ?_
         rotate_left
         · ((intro W hW; (try cases hW); go_simp); try with_reducible rfl)
         (try simp only [Act.put, sA, sB, sC])
         refine wpQuiet_nil (fun w6 hW => ?_)
         have HBF := Lib.hid (below_step HBW.out hW.b)
         clear hW
         go_wp2
         go_ret
         exact ⟨by rw [HO.out]; rfl, HBF.out⟩
       | true =>
         have HEP : Hid (k = k2) := Lib.hid (HKE.out.1 rfl)
         refine wpQuiet_val (v := ?_) (by rfl) ?_ ?_
         rotate_left
         · ((intro W hW; (try cases hW); go_simp); try with_reducible rfl)
         (try simp only [Act.put, sA, sB, sC])
         refine wpQuiet_nil (fun w6 hW => ?_)
         have HB6 := Lib.hid hW.b
         clear hW
         go_wp2
         go_roundw
         case rel => exact ⟨q + 1, by omega, by go_num, Lib.hid (fun j hj => by
           by_cases e : j = q
           · rw [e, HQ1.out, HQ2.out, HEP.out]
           · exact HALL.out j (by omega)), Lib.hid (below_step HBI.out HB6.out)⟩
         case measure => simp [intOf]; omega
     obtain rfl : q = lk := by omega
     have HKS : Hid (ks = ks2) := Lib.hid (ext_of HLK.out HLK2.out HALL.out)
     have y3 := bx_cell hx1 3 rfl
     have HZ1 := Lib.hid hx1
     have HZ2 := Lib.hid hx2
     clear hx1 hx2 HY1 HY2 HALL
     go_wp2
     clear y3
     generalize wr = wx at *
     clear hlt hq
     go_loopw [7] (fun i wr => ∃ q : Nat, q ≤ lc ∧ i = .int .i64 (q : Int) ∧ Hid (∀ j, j < q → cl[j]?.getD ⟨0, 0, 0, 0⟩ = cl2[j]?.getD ⟨0, 0, 0, 0⟩) ∧ Hid (Below wx.heap.size wx wr)) (fun i _ => lc - (intOf i).toNat)
     case atStart => exact ⟨0, Nat.zero_le _, rfl, Lib.hid (fun j hj => absurd hj (Nat.not_lt_zero _)), Lib.hid (Below.refl _ _)⟩
     case round =>
       obtain ⟨q, hq, rfl, HALL, HBJ⟩ := hrel
       have hx1 := (HBJ.out.block _ (bx_lt HZ1.out)).trans HZ1.out
       have hx2 := (HBJ.out.block _ (bx_lt HZ2.out)).trans HZ2.out
       have HBV := Lib.hid (below_step HBW.out HBJ.out)
       by_cases hlt : q < lc
       case pos =>
         have y6 := bx_cell hx1 6 rfl
         have z6 := bx_cell hx2 6 rfl
         have t3 : decide ((q : Int) < (lc : Int)) = true := by rw [decide_eq_true_eq]; omega
         have b3 : (0 : Int) ≤ (q : Int) := by omega
         have b4 : (q : Int) < (lc : Int) := by omega
         have hq1 : q < cl.length := by have := HLC.out; omega
         have hq2 : q < cl2.length := by have := HLC2.out; omega
         obtain ⟨e1, o1, ha1, _, x0, x1, x2, x3⟩ := (HC1.out.up hN HBV.out).at_ hq1
         obtain ⟨e2, o2, ha2, _, u0, u1, u2, u3⟩ := (HC2.out.up hN HBV.out).at_ hq2
         subst ha1
         subst ha2
         have HQ1 : Hid (cl[q]?.getD ⟨0, 0, 0, 0⟩ = cl[q]) := Lib.hid (by rw [List.getElem?_eq_getElem hq1]; rfl)
         have HQ2 : Hid (cl2[q]?.getD ⟨0, 0, 0, 0⟩ = cl2[q]) := Lib.hid (by rw [List.getElem?_eq_getElem hq2]; rfl)
         generalize cl[q] = k at *
         generalize cl2[q] = k2 at *
         obtain ⟨k0, k1, k3, k4⟩ := k
         obtain ⟨n0, n1, n3, n4⟩ := k2
         dsimp only at x0 x1 x2 x3 u0 u1 u2 u3
         have hC : E4C wr w.heap.size 6 e1 (o1 + q * 4) e2 (o2 + q * 4) _ _ _ _ _ _ _ _ _ _ wr := ⟨Below.refl _ _, y6, z6, x0, x1, x2, x3, u0, u1, u2, u3⟩
         have hC2 := hC.up (Below.refl _ _).drew
         clear hC hx1 hx2 hq1 hq2
         go_upto_region 16 with (fail)
         clear y6 z6 x0 x1 x2 x3 u0 u1 u2 u3
         have hg : ∀ W, (eqGuard .neq 70 (.tmp 106) (.tmp 111) (.agg #[.int .i64 k0, .int .i64 k1, .int .i64 k3, .int .i64 k4]) (.agg #[.int .i64 n0, .int .i64 n1, .int .i64 n3, .int .i64 n4])).run Tryz.prog W = .ok () W := fun W => run_eqGuard_agg W _ _ _ _ _ _ clause_guard
         have hnq := neq_clause k0 k1 k3 k4 n0 n1 n3 n4
         have hvb : (!(k0 == n0 && (k1 == n1 && (k3 == n3 && k4 == n4)))) = true ∧ ¬ (⟨k0, k1, k3, k4⟩ : ClauseD) = ⟨n0, n1, n3, n4⟩ ∨ (!(k0 == n0 && (k1 == n1 && (k3 == n3 && k4 == n4)))) = false ∧ (⟨k0, k1, k3, k4⟩ : ClauseD) = ⟨n0, n1, n3, n4⟩ := by
           rw [ClauseD.mk.injEq]
           by_cases h0 : k0 = n0 <;> by_cases h1 : k1 = n1 <;> by_cases h2 : k3 = n3 <;> by_cases h3 : k4 = n4 <;> simp [h0, h1, h2, h3]
         rcases hvb with ⟨hv, hne⟩ | ⟨hv, hne⟩
         · rw [hv] at hnq
           have HO : Hid (R = false) := Lib.hid (HNO.out (fun e => hne (HQ1.out.symm.trans ((congrArg (fun g : GameD => g.clauses[q]?.getD ⟨0, 0, 0, 0⟩) e).trans HQ2.out))))
           clear hv hne
           refine wp_region_quiet (C := E4C wr w.heap.size 6 e1 (o1 + q * 4) e2 (o2 + q * 4) _ _ _ _ _ _ _ _ _ _) (by kernel_rfl) (by kernel_rfl) hC2 ?_
           clear hC2
           dsimp only
           iterate 11
             refine wpQuiet_val (v := ?_) (by rfl) ?_ ?_
             rotate_left
             · ((intro W hW; (try cases hW); go_simp); try with_reducible rfl)
             (try simp only [Act.put, sA, sB, sC])
           refine wpQuiet_nil (fun w6 hW => ?_)
           have HBF := Lib.hid (below_step HBV.out hW.b)
           clear hW
           go_wp2
           go_ret
           exact ⟨by rw [HO.out]; rfl, HBF.out⟩
         · rw [hv] at hnq
           have HEP := Lib.hid hne
           clear hv hne
           refine wp_region_quiet (C := E4C wr w.heap.size 6 e1 (o1 + q * 4) e2 (o2 + q * 4) _ _ _ _ _ _ _ _ _ _) (by kernel_rfl) (by kernel_rfl) hC2 ?_
           clear hC2
           dsimp only
           iterate 11
             refine wpQuiet_val (v := ?_) (by rfl) ?_ ?_
             rotate_left
             · ((intro W hW; (try cases hW); go_simp); try with_reducible rfl)
             (try simp only [Act.put, sA, sB, sC])
           refine wpQuiet_nil (fun w6 hW => ?_)
           have HB6 := Lib.hid hW.b
           clear hW
           go_wp2
           go_roundw
           case rel => exact ⟨q + 1, by omega, by go_num, Lib.hid (fun j hj => by
             by_cases e : j = q
             · rw [e, HQ1.out, HQ2.out, HEP.out]
             · exact HALL.out j (by omega)), Lib.hid (below_step HBJ.out HB6.out)⟩
           case measure => simp [intOf]; omega
       obtain rfl : q = lc := by omega
       have HCS : Hid (cl = cl2) := Lib.hid (ext_of HLC.out HLC2.out HALL.out)
       have y0 := bx_cell hx1 0 rfl
       have y1 := bx_cell hx1 1 rfl
       have y2 := bx_cell hx1 2 rfl
       have y3 := bx_cell hx1 3 rfl
       have y4 := bx_cell hx1 4 rfl
       have y5 := bx_cell hx1 5 rfl
       have y6 := bx_cell hx1 6 rfl
       have y7 := bx_cell hx1 7 rfl
       have y8 := bx_cell hx1 8 rfl
       have z0 := bx_cell hx2 0 rfl
       have z1 := bx_cell hx2 1 rfl
       have z2 := bx_cell hx2 2 rfl
       have z3 := bx_cell hx2 3 rfl
       have z4 := bx_cell hx2 4 rfl
       have z5 := bx_cell hx2 5 rfl
       have z6 := bx_cell hx2 6 rfl
       have z7 := bx_cell hx2 7 rfl
       have z8 := bx_cell hx2 8 rfl
       clear hx1 hx2 HALL hlt hq
       by_cases he : ri = ri2
       case neg =>
         have HO : Hid (R = false) := Lib.hid (HNO.out (fun e => he (congrArg GameD.rights e)))
         have t1 : (ri == ri2) = false := by simpa using he
         have t2 : decide (ri = ri2) = false := by simpa using he
         clear he
         go_wp2
         go_ret
         exact ⟨by rw [HO.out]; rfl, HBV.out⟩
       subst he
       by_cases he : mu = mu2
       case neg =>
         have HO : Hid (R = false) := Lib.hid (HNO.out (fun e => he (congrArg GameD.must e)))
         cases mu <;> cases mu2
         · exact absurd rfl he
         · clear he
           go_wp2
           go_ret
           exact ⟨by rw [HO.out]; rfl, HBV.out⟩
         · clear he
           go_wp2
           go_ret
           exact ⟨by rw [HO.out]; rfl, HBV.out⟩
         · exact absurd rfl he
       subst he
       by_cases he : bl = bl2
       case neg =>
         have HO : Hid (R = false) := Lib.hid (HNO.out (fun e => he (congrArg GameD.blocked e)))
         have t1 : (bl == bl2) = false := by simpa using he
         have t2 : decide (bl = bl2) = false := by simpa using he
         clear he
         go_wp2
         go_ret
         exact ⟨by rw [HO.out]; rfl, HBV.out⟩
       subst he
       by_cases he : en = en2
       case neg =>
         have HO : Hid (R = false) := Lib.hid (HNO.out (fun e => he (congrArg GameD.endless e)))
         have t1 : (en == en2) = false := by simpa using he
         have t2 : decide (en = en2) = false := by simpa using he
         clear he
         go_wp2
         go_ret
         exact ⟨by rw [HO.out]; rfl, HBV.out⟩
       subst he
       have HO : Hid (R = true) := Lib.hid (HYES.out (by rw [HNX.out, HKS.out, HCS.out]))
       go_wp2
       go_ret
       exact ⟨by rw [HO.out]; rfl, HBV.out⟩
end Go.Proofs.YtbmcngoeinginaaGreatDoor
