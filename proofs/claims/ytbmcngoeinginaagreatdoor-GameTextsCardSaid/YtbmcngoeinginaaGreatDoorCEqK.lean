/-
 Two kinds compared, in the laws of games.
-/
import Derived.Test.YtbmcngoeinginaaGreatDoorCEqI
import Derived.Test.YtbmcngoeinginaaGreatDoorCBas
namespace Go.Proofs.YtbmcngoeinginaaGreatDoor
open Go Go.RowKit Go.Lib
attribute [local irreducible] Go.wpQuiet
structure EkC (w : World) (qb b1 o1 b2 o2 : Nat) (u v x y : Value) (W : World) : Prop where
 b : Below w.heap.size w W
 q1 : W.cell? ⟨qb, 1, none⟩ = some u
 q2 : W.cell? ⟨qb + 1, 1, none⟩ = some v
 x1 : W.cell? ⟨b1, o1, none⟩ = some x
 x2 : W.cell? ⟨b2, o2, none⟩ = some y
theorem EkC.up {w W W' : World} {qb b1 o1 b2 o2 : Nat} {u v x y : Value} (h : EkC w qb b1 o1 b2 o2 u v x y W) (hb : Below W.heap.size W W') : EkC w qb b1 o1 b2 o2 u v x y W' := ⟨below_step h.b hb, cell_keep hb h.q1, cell_keep hb h.q2, cell_keep hb h.x1, cell_keep hb h.x2⟩
structure EsC (w : World) (qb b1 o1 b2 o2 c1 p1 c2 p2 : Nat) (u v x y : Value) (m n r s : Int) (W : World) : Prop where
 b : Below w.heap.size w W
 q1 : W.cell? ⟨qb, 1, none⟩ = some u
 q2 : W.cell? ⟨qb + 1, 1, none⟩ = some v
 x1 : W.cell? ⟨b1, o1, none⟩ = some x
 x2 : W.cell? ⟨b2, o2, none⟩ = some y
 s1 : W.cell? ⟨c1, p1, none⟩ = some (.int .i64 m)
 s2 : W.cell? ⟨c1, p1 + 1, none⟩ = some (.int .i64 n)
 s3 : W.cell? ⟨c2, p2, none⟩ = some (.int .i64 r)
 s4 : W.cell? ⟨c2, p2 + 1, none⟩ = some (.int .i64 s)
def eqK (k m : KindD) : Bool := decide (k.name = m.name) && (decide (k.keep = m.keep) && decide (k.progs = m.progs))
theorem eqK_iff (k m : KindD) : eqK k m = true ↔ k = m := by
 unfold eqK
 cases k; cases m
 simp only [Bool.and_eq_true, decide_eq_true_eq, KindD.mk.injEq]
 constructor
 · rintro ⟨a, b, c⟩; exact ⟨a, c, b⟩
 · rintro ⟨a, b, c⟩; exact ⟨a, c, b⟩
theorem EsC.up {w W W' : World} {qb b1 o1 b2 o2 c1 p1 c2 p2 : Nat} {u v x y : Value} {m n r s : Int} (h : EsC w qb b1 o1 b2 o2 c1 p1 c2 p2 u v x y m n r s W) (hb : Below W.heap.size W W') : EsC w qb b1 o1 b2 o2 c1 p1 c2 p2 u v x y m n r s W' :=
 ⟨below_step h.b hb, cell_keep hb h.q1, cell_keep hb h.q2, cell_keep hb h.x1, cell_keep hb h.x2, cell_keep hb h.s1, cell_keep hb h.s2, cell_keep hb h.s3, cell_keep hb h.s4⟩
theorem bxn {W : World} (o : Obj) {b : Nat} (hb : b = W.heap.size) : (W.alloc o).heap[b]? = some o := by subst hb; exact World.alloc_heap_new W o
theorem bxo {W : World} {o o' : Obj} {b : Nat} (h : W.heap[b]? = some o') : (W.alloc o).heap[b]? = some o' := (Below.heap_alloc _ _ _ (bx_lt h)).trans h
theorem step_stood : Tryz.prog.stoodInHeld 91 = false := by kernel_rfl
theorem step_guard : Tryz.prog.eqGuardType Tryz.prog.depth 91 = false := by kernel_rfl
theorem neq_step (y1 y2 z1 z2 : Int) (W : World) : (binOp .neq 91 (.agg #[.int .i64 y1, .int .i64 y2]) (.agg #[.int .i64 z1, .int .i64 z2])).run Tryz.prog W = .ok (.bool (!(y1 == z1 && y2 == z2))) W := by
 have ht : Tryz.prog.underlying 91 = some (.struct (Tryz.prog.fieldsOf 91)) := by kernel_rfl
 have h3 : Tryz.prog.underlying 3 = some (.int .i64) := Tryz.underlying3
 have hi : (Tryz.prog.info? 3).map (·.size) = some 1 := by kernel_rfl
 rw [run_neq_struct, run_equalIn_agg _ _ _ _ _ ht step_stood]
 unfold Program.fieldsOf
 rw [Tryz.underlying91]
 go_simp
 by_cases h1 : y1 = z1 <;> by_cases h2 : y2 = z2 <;> simp [h1, h2]
set_option maxRecDepth 100000 in
set_option maxHeartbeats 3000000 in
theorem ekinds_any (k m : KindD) (a1 a2 : Option Addr) (c1 c2 N : Nat) (w : World) (hl : k.progs.length ≤ 2000) (hl2 : m.progs.length ≤ 2000) (hs : ∀ p ∈ k.progs, p.length ≤ 2000) (hs2 : ∀ p ∈ m.progs, p.length ≤ 2000) (hN : N ≤ w.heap.size) (hP : ProgsIn N w a1 k.progs) (hP2 : ProgsIn N w a2 m.progs) :
   Calls Tryz.prog 51 #[.agg #[.string ⟨k.name.toArray⟩, .slice a1 k.progs.length c1, .bool k.keep], .agg #[.string ⟨m.name.toArray⟩, .slice a2 m.progs.length c2, .bool m.keep]] w fun e w' => e = .returned (.bool (eqK k m)) ∧ Below w.heap.size w w' := by
 obtain ⟨nm, ps, kp⟩ := k
 obtain ⟨nm2, ps2, kp2⟩ := m
 dsimp only at *
 have HEQ : Hid (eqK ⟨nm, ps, kp⟩ ⟨nm2, ps2, kp2⟩ = (decide (nm = nm2) && (decide (kp = kp2) && decide (ps = ps2)))) := Lib.hid rfl
 generalize eqK ⟨nm, ps, kp⟩ ⟨nm2, ps2, kp2⟩ = R at *
 by_cases hn : nm = nm2
 case neg =>
   have HO : Hid (R = false) := Lib.hid (by rw [HEQ.out, show decide (nm = nm2) = false from by rw [decide_eq_false_iff_not]; exact hn]; rfl)
   have t1 : (nm != nm2) = true := by simpa using hn
   have t2 : (nm == nm2) = false := by simpa using hn
   have t3 : decide (nm = nm2) = false := by simpa using hn
   clear HEQ hn
   go_enter Tryz.func51, Tryz.ntmps51
   go_wp2
   go_ret
   exact ⟨by rw [HO.out]; rfl, below_alloc (below_alloc (Below.refl _ _) _) _⟩
 subst hn
 by_cases hk : kp = kp2
 case neg =>
   have HO : Hid (R = false) := Lib.hid (by rw [HEQ.out, show decide (kp = kp2) = false from by rw [decide_eq_false_iff_not]; exact hk]; simp)
   clear HEQ
   cases kp <;> cases kp2
   · exact absurd rfl hk
   · clear hk
     go_enter Tryz.func51, Tryz.ntmps51
     go_wp2
     go_ret
     exact ⟨by rw [HO.out]; rfl, below_alloc (below_alloc (Below.refl _ _) _) _⟩
   · clear hk
     go_enter Tryz.func51, Tryz.ntmps51
     go_wp2
     go_ret
     exact ⟨by rw [HO.out]; rfl, below_alloc (below_alloc (Below.refl _ _) _) _⟩
   · exact absurd rfl hk
 subst hk
 have HEQ2 : Hid (R = decide (ps = ps2)) := Lib.hid (by rw [HEQ.out]; simp)
 clear HEQ
 obtain ⟨n, hn⟩ : ∃ n, ps.length = n := ⟨_, rfl⟩
 obtain ⟨n2, hn2⟩ : ∃ n2, ps2.length = n2 := ⟨_, rfl⟩
 rw [hn] at hl ⊢
 rw [hn2] at hl2 ⊢
 have HN1 := Lib.hid hn
 have HN2 := Lib.hid hn2
 by_cases he : n = n2
 case neg =>
   have HO : Hid (R = false) := Lib.hid (by rw [HEQ2.out, decide_eq_false_iff_not]; intro e; exact he (by rw [← hn, ← hn2, e]))
   have t1 : ((n : Int) != (n2 : Int)) = true := by simp; omega
   have t2 : decide ((n : Int) = (n2 : Int)) = false := by simp; omega
   have t3 : decide (n = n2) = false := by simpa using he
   clear HEQ2 he hn hn2
   go_enter Tryz.func51, Tryz.ntmps51
   go_wp2
   go_ret
   exact ⟨by rw [HO.out]; rfl, below_alloc (below_alloc (Below.refl _ _) _) _⟩
 subst he
 clear hn hn2
 have hbA : Below w.heap.size w ((w.alloc (.cells #[.string ⟨nm.toArray⟩, .slice a1 n c1, .bool kp] 63)).alloc (.cells #[.string ⟨nm.toArray⟩, .slice a2 n c2, .bool kp] 63)) := below_alloc (below_alloc (Below.refl _ w) _) _
 have hx1 : ((w.alloc (.cells #[.string ⟨nm.toArray⟩, .slice a1 n c1, .bool kp] 63)).alloc (.cells #[.string ⟨nm.toArray⟩, .slice a2 n c2, .bool kp] 63)).heap[w.heap.size]? = some (.cells #[.string ⟨nm.toArray⟩, .slice a1 n c1, .bool kp] 63 (0, 0)) := bxo (bxn _ rfl)
 have hx2 : ((w.alloc (.cells #[.string ⟨nm.toArray⟩, .slice a1 n c1, .bool kp] 63)).alloc (.cells #[.string ⟨nm.toArray⟩, .slice a2 n c2, .bool kp] 63)).heap[w.heap.size + 1]? = some (.cells #[.string ⟨nm.toArray⟩, .slice a2 n c2, .bool kp] 63 (0, 0)) := bxn _ (by simp)
 have HS1 := Lib.hid hs
 have HS2 := Lib.hid hs2
 have HP1 := Lib.hid hP
 have HP2 := Lib.hid hP2
 clear hP hP2 hs hs2
 go_enter Tryz.func51, Tryz.ntmps51
 go_upto_region 1 with (fail)
 generalize (w.alloc (.cells #[.string ⟨nm.toArray⟩, .slice a1 n c1, .bool kp] 63)).alloc (.cells #[.string ⟨nm.toArray⟩, .slice a2 n c2, .bool kp] 63) = w1 at *
 have HBA := Lib.hid hbA
 have HX1 := Lib.hid hx1
 have HX2 := Lib.hid hx2
 have y0 := bx_cell hx1 0 rfl
 have y1 := bx_cell hx1 1 rfl
 have y2 := bx_cell hx1 2 rfl
 have z0 := bx_cell hx2 0 rfl
 have z1 := bx_cell hx2 1 rfl
 have z2 := bx_cell hx2 2 rfl
 clear hbA hx1 hx2
 go_wp2
 clear y0 y1 y2 z0 z1 z2
 go_loopw [5] (fun i wr => ∃ q : Nat, q ≤ n ∧ i = .int .i64 (q : Int) ∧ Hid (∀ j, j < q → ps[j]?.getD [] = ps2[j]?.getD []) ∧ Hid (Below w1.heap.size w1 wr)) (fun i _ => n - (intOf i).toNat)
 case atStart => exact ⟨0, Nat.zero_le _, rfl, Lib.hid (fun j hj => absurd hj (Nat.not_lt_zero _)), Lib.hid (Below.refl _ _)⟩
 case round =>
   obtain ⟨q, hq, rfl, HALL, HBR⟩ := hrel
   have hx1 := (HBR.out.block _ (bx_lt HX1.out)).trans HX1.out
   have hx2 := (HBR.out.block _ (bx_lt HX2.out)).trans HX2.out
   have y1 := bx_cell hx1 1 rfl
   have z1 := bx_cell hx2 1 rfl
   have HBQ := Lib.hid (below_step HBA.out HBR.out)
   by_cases hlt : q < n
   case neg =>
     obtain rfl : q = n := by omega
     have HO : Hid (R = true) := Lib.hid (by
       rw [HEQ2.out, decide_eq_true_eq]
       apply List.ext_getElem (by rw [HN1.out, HN2.out])
       intro j h1 h2
       have := HALL.out j (by have := HN1.out; omega)
       rwa [List.getElem?_eq_getElem h1, List.getElem?_eq_getElem h2] at this)
     clear hx1 hx2
     go_wp2
     go_ret
     exact ⟨by rw [HO.out]; rfl, HBQ.out⟩
   have t3 : decide ((q : Int) < (n : Int)) = true := by rw [decide_eq_true_eq]; omega
   have b3 : (0 : Int) ≤ (q : Int) := by omega
   have b4 : (q : Int) < (n : Int) := by omega
   have hq1 : q < ps.length := by have := HN1.out; omega
   have hq2 : q < ps2.length := by have := HN2.out; omega
   obtain ⟨e1, o1, aj, cj, ha1, _, x1, hp1⟩ := (HP1.out.up hN HBQ.out).at_ hq1
   obtain ⟨e2, o2, am, cm, ha2, _, x2, hp2⟩ := (HP2.out.up hN HBQ.out).at_ hq2
   have HNR : Hid (N ≤ wr.heap.size) := Lib.hid (Nat.le_trans hN HBQ.out.size)
   subst ha1
   subst ha2
   have hpl := HS1.out _ (List.getElem_mem hq1)
   have hpl2 := HS2.out _ (List.getElem_mem hq2)
   have HQ1 : Hid (ps[q]?.getD [] = ps[q]) := Lib.hid (by rw [List.getElem?_eq_getElem hq1]; rfl)
   have HQ2 : Hid (ps2[q]?.getD [] = ps2[q]) := Lib.hid (by rw [List.getElem?_eq_getElem hq2]; rfl)
   generalize ps[q] = p at *
   generalize ps2[q] = p2 at *
   obtain ⟨lp, hlp⟩ : ∃ lp, p.length = lp := ⟨_, rfl⟩
   obtain ⟨lp2, hlp2⟩ : ∃ lp2, p2.length = lp2 := ⟨_, rfl⟩
   rw [hlp] at x1 hpl
   rw [hlp2] at x2 hpl2
   have HL1 := Lib.hid hlp
   have HL2 := Lib.hid hlp2
   have HI1 := Lib.hid hp1
   have HI2 := Lib.hid hp2
   have hC : EkC wr w.heap.size e1 (o1 + q) e2 (o2 + q) _ _ _ _ wr := ⟨Below.refl _ _, y1, z1, x1, x2⟩
   have hC2 := hC.up (Below.refl _ _).drew
   clear hC hlp hlp2 hp1 hp2 hx1 hx2 hq1 hq2
   go_upto_region 6 with (fail)
   clear y1 z1 x1 x2
   refine wp_region_quiet (C := EkC wr w.heap.size e1 (o1 + q) e2 (o2 + q) _ _ _ _) (by kernel_rfl) (by kernel_rfl) hC2 ?_
   clear hC2
   dsimp only
   by_cases hle : lp = lp2
   case neg =>
     have HO : Hid (R = false) := Lib.hid (by
       rw [HEQ2.out, decide_eq_false_iff_not]
       intro e
       have := HQ1.out.symm.trans ((congrArg (fun l => l[q]?.getD []) e).trans HQ2.out)
       exact hle (by rw [← HL1.out, ← HL2.out, this]))
     have u1 : ((lp : Int) != (lp2 : Int)) = true := by simp; omega
     have u2 : decide ((lp : Int) = (lp2 : Int)) = false := by simp; omega
     clear hle
     iterate 13
       refine wpQuiet_val (v := ?_) (by rfl) ?_ ?_
       rotate_left
       · ((intro W hW; (try cases hW); go_simp); try with_reducible rfl)
       (try simp only [Act.put, sA, sB, sC])
     refine wpQuiet_nil (fun w6 hW => ?_)
     have HBF := Lib.hid (below_step HBQ.out hW.b)
     clear hW
     go_wp2
     go_ret
     exact ⟨by rw [HO.out]; rfl, HBF.out⟩
   subst hle
   iterate 13
     refine wpQuiet_val (v := ?_) (by rfl) ?_ ?_
     rotate_left
     · ((intro W hW; (try cases hW); go_simp); try with_reducible rfl)
     (try simp only [Act.put, sA, sB, sC])
   refine wpQuiet_nil (fun w6 hW => ?_)
   have HW6 := Lib.hid hW
   clear hW
   have HB6 := Lib.hid HW6.out.b
   go_wp2
   generalize wr = wo at *
   go_loopw [6] (fun i wr => ∃ r : Nat, r ≤ lp ∧ i = .int .i64 (r : Int) ∧ Hid (∀ j, j < r → p[j]?.getD (0, 0) = p2[j]?.getD (0, 0)) ∧ Hid (Below w6.heap.size w6 wr)) (fun i _ => lp - (intOf i).toNat)
   case atStart => exact ⟨0, Nat.zero_le _, rfl, Lib.hid (fun j hj => absurd hj (Nat.not_lt_zero _)), Lib.hid (Below.refl _ _)⟩
   case round =>
     obtain ⟨r, hr, rfl, HALI, HBI⟩ := hrel
     have hC := HW6.out.up HBI.out
     have y1 := hC.q1
     have z1 := hC.q2
     have x1 := hC.x1
     have x2 := hC.x2
     have HBW := Lib.hid (below_step HBQ.out (below_step HB6.out HBI.out))
     by_cases hrt : r < lp
     case neg =>
       obtain rfl : r = lp := by omega
       have HPP : Hid (p = p2) := Lib.hid (by
         apply List.ext_getElem (by rw [HL1.out, HL2.out])
         intro j h1 h2
         have := HALI.out j (by have := HL1.out; omega)
         rwa [List.getElem?_eq_getElem h1, List.getElem?_eq_getElem h2] at this)
       clear hC
       go_wp2
       go_roundw
       case rel => exact ⟨q + 1, by omega, by go_num, Lib.hid (fun j hj => by
         by_cases e : j = q
         · rw [e, HQ1.out, HQ2.out, HPP.out]
         · exact HALL.out j (by omega)), Lib.hid (below_step HBR.out (below_step HB6.out HBI.out))⟩
       case measure => simp [intOf]; omega
     have t4 : decide ((r : Int) < (lp : Int)) = true := by rw [decide_eq_true_eq]; omega
     have b5 : (0 : Int) ≤ (r : Int) := by omega
     have b6 : (r : Int) < (lp : Int) := by omega
     have hr1 : r < p.length := by have := HL1.out; omega
     have hr2 : r < p2.length := by have := HL2.out; omega
     obtain ⟨f1, g1, hj1, _, s1, s2⟩ := (HI1.out.up HNR.out (below_step HB6.out HBI.out)).at_ hr1
     obtain ⟨f2, g2, hj2, _, s3, s4⟩ := (HI2.out.up HNR.out (below_step HB6.out HBI.out)).at_ hr2
     subst hj1
     subst hj2
     have HE1 : Hid (p[r]?.getD (0, 0) = p[r]) := Lib.hid (by rw [List.getElem?_eq_getElem hr1]; rfl)
     have HE2 : Hid (p2[r]?.getD (0, 0) = p2[r]) := Lib.hid (by rw [List.getElem?_eq_getElem hr2]; rfl)
     rw [List.getElem?_eq_getElem hr1, Option.getD_some] at s1 s2
     rw [List.getElem?_eq_getElem hr2, Option.getD_some] at s3 s4
     generalize p[r] = x at *
     generalize p2[r] = y at *
     obtain ⟨x1v, x2v⟩ := x
     obtain ⟨y1v, y2v⟩ := y
     dsimp only at s1 s2 s3 s4
     have hE : EsC wr w.heap.size e1 (o1 + q) e2 (o2 + q) f1 (g1 + r * 2) f2 (g2 + r * 2) _ _ _ _ x1v x2v y1v y2v wr := ⟨Below.refl _ _, y1, z1, x1, x2, s1, s2, s3, s4⟩
     have hE2 := hE.up (Below.refl _ _).drew
     clear hE hC hr1 hr2
     go_upto_region 11 with (fail)
     clear y1 z1 x1 x2 s1 s2 s3 s4
     have hg : ∀ W, (eqGuard .neq 91 (.tmp 65) (.tmp 73) (.agg #[.int .i64 x1v, .int .i64 x2v]) (.agg #[.int .i64 y1v, .int .i64 y2v])).run Tryz.prog W = .ok () W := fun W => run_eqGuard_agg W _ _ _ _ _ _ step_guard
     by_cases hxy : x1v = y1v ∧ x2v = y2v
     case neg =>
       have HO : Hid (R = false) := Lib.hid (by
         rw [HEQ2.out, decide_eq_false_iff_not]
         intro e
         have h1 := HQ1.out.symm.trans ((congrArg (fun l => l[q]?.getD []) e).trans HQ2.out)
         have h2 := HE1.out.symm.trans ((congrArg (fun l => l[r]?.getD (0, 0)) h1).trans HE2.out)
         exact hxy (by simpa using h2))
       have hq : ∀ W, (binOp .neq 91 (.agg #[.int .i64 x1v, .int .i64 x2v]) (.agg #[.int .i64 y1v, .int .i64 y2v])).run Tryz.prog W = .ok (.bool true) W := fun W => by
         rw [neq_step]
         congr 2
         by_cases h1 : x1v = y1v
         · by_cases h2 : x2v = y2v
           · exact absurd ⟨h1, h2⟩ hxy
           · simp [h2]
         · simp [h1]
       clear hxy
       refine wp_region_quiet (C := EsC wr w.heap.size e1 (o1 + q) e2 (o2 + q) f1 (g1 + r * 2) f2 (g2 + r * 2) _ _ _ _ x1v x2v y1v y2v) (by kernel_rfl) (by kernel_rfl) hE2 ?_
       clear hE2
       dsimp only
       iterate 17
         refine wpQuiet_val (v := ?_) (by rfl) ?_ ?_
         rotate_left
         · ((intro W hW; (try cases hW); go_simp); try with_reducible rfl)
         (try simp only [Act.put, sA, sB, sC])
       refine wpQuiet_nil (fun w7 hW => ?_)
       have HBF := Lib.hid (below_step HBW.out hW.b)
       clear hW
       go_wp2
       go_ret
       exact ⟨by rw [HO.out]; rfl, HBF.out⟩
     obtain ⟨ha, hb⟩ := hxy
     have hq : ∀ W, (binOp .neq 91 (.agg #[.int .i64 x1v, .int .i64 x2v]) (.agg #[.int .i64 y1v, .int .i64 y2v])).run Tryz.prog W = .ok (.bool false) W := fun W => by rw [neq_step]; simp [ha, hb]
     have HEE : Hid (p[r]?.getD (0, 0) = p2[r]?.getD (0, 0)) := Lib.hid (by rw [HE1.out, HE2.out, ha, hb])
     clear ha hb
     refine wp_region_quiet (C := EsC wr w.heap.size e1 (o1 + q) e2 (o2 + q) f1 (g1 + r * 2) f2 (g2 + r * 2) _ _ _ _ x1v x2v y1v y2v) (by kernel_rfl) (by kernel_rfl) hE2 ?_
     clear hE2
     dsimp only
     iterate 17
       refine wpQuiet_val (v := ?_) (by rfl) ?_ ?_
       rotate_left
       · ((intro W hW; (try cases hW); go_simp); try with_reducible rfl)
       (try simp only [Act.put, sA, sB, sC])
     refine wpQuiet_nil (fun w7 hW => ?_)
     have HB7 := Lib.hid hW.b
     clear hW
     go_wp2
     go_roundw
     case rel => exact ⟨r + 1, by omega, by go_num, Lib.hid (fun j hj => by
       by_cases e : j = r
       · rw [e]; exact HEE.out
       · exact HALI.out j (by omega)), Lib.hid (below_step HBI.out HB7.out)⟩
     case measure => simp [intOf]; omega
end Go.Proofs.YtbmcngoeinginaaGreatDoor
