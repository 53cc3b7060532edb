/-
  BoardValid returns true, where the turns are cut.
-/
import Derived.Test.YtcpjkilnbhfpjaaDoorVals
namespace Go.Proofs.YtcpjkilnbhfpjaaDoor
open Go Go.RowKit Go.Shelf

set_option maxRecDepth 100000 in
set_option maxHeartbeats 8000000 in
theorem vals_short (B : Brd) (an at_ : Option Addr) (cn ct : Nat) (xs : Array Value) (x0 x1 x2 : Nat) (nx : Nat → Nat) (hx : RawIn xs x0 x1 x2 nx) (a0 a1 a2 a3 : Int) (u0 u1 : Nat) (e0 : IntKind.u16.wrap a0 = (u0 : Int)) (e1 : IntKind.u16.wrap a1 = (u1 : Int)) (b0 : u0 < 65536) (b1 : u1 < 65536) (w : World) (hR : RaysIn w) (hH : Held w.heap.size w an at_ B) (hn : B.next.length ≤ 70) (ht : B.turn.length ≤ 70) (hsw : (u1 : Int) % 5 = 3) :
    Calls Tryd.prog 4 #[B.val an cn at_ ct, .agg xs, .agg #[.int .i16 a0, .int .i16 a1, .int .i16 a2, .int .i16 a3]] w fun e w' => e = .returned (.bool true) ∧ Below w.heap.size w w' := by
  go_enter Tryd.func4, Tryd.ntmps4
  go_wp2_with fail
  obtain ⟨wa, hwa⟩ : ∃ wa, wa = w.alloc (.cells #[.int .i64 B.cells, .slice an B.next.length cn, .slice at_ B.turn.length ct] 31) := ⟨_, rfl⟩
  have sa : wa.heap.size = w.heap.size + 1 := by rw [hwa, World.size_alloc]
  have y1 : InBox wa w.heap.size an at_ cn ct B := by rw [hwa]; exact InBox.new cn ct hH
  have ba : Below w.heap.size w wa := by rw [hwa]; exact below_alloc (Below.refl _ _) _
  rw [← hwa]
  clear hwa
  obtain ⟨wb, hwb⟩ : ∃ wb, wb = wa.alloc (.cells xs 24) := ⟨_, rfl⟩
  have sb : wb.heap.size = w.heap.size + 1 + 1 := by rw [hwb, World.size_alloc, sa]
  replace y1 : InBox wb w.heap.size an at_ cn ct B := by rw [hwb]; exact y1.up (below_alloc (Below.refl _ _) _)
  have xb : wb.heap[w.heap.size + 1]? = some (.cells xs 24 (0, 0)) := by rw [hwb, ← sa]; exact World.alloc_heap_new _ _
  have bb : Below w.heap.size w wb := by rw [hwb]; exact below_alloc ba _
  rw [← hwb]
  clear hwb ba
  obtain ⟨wc, hwc⟩ : ∃ wc, wc = wb.alloc (.cells #[.int .i16 a0, .int .i16 a1, .int .i16 a2, .int .i16 a3] 26) := ⟨_, rfl⟩
  have sc : wc.heap.size = w.heap.size + 1 + 1 + 1 := by rw [hwc, World.size_alloc, sb]
  replace y1 : InBox wc w.heap.size an at_ cn ct B := by rw [hwc]; exact y1.up (below_alloc (Below.refl _ _) _)
  have xc : wc.heap[w.heap.size + 1]? = some (.cells xs 24 (0, 0)) := by rw [hwc]; exact (((Below.refl wb.heap.size wb).alloc (Nat.le_refl _) _).block _ (by omega)).trans xb
  have v0 : wc.cell? ⟨w.heap.size + 1 + 1, 0, none⟩ = some (.int .i16 a0) := by rw [hwc, ← sb]; exact cell_new_at _ _ _ _ _ _ rfl rfl
  have v1 : wc.cell? ⟨w.heap.size + 1 + 1, 1, none⟩ = some (.int .i16 a1) := by rw [hwc, ← sb]; exact cell_new_at _ _ _ _ _ _ rfl rfl
  have v2 : wc.cell? ⟨w.heap.size + 1 + 1, 2, none⟩ = some (.int .i16 a2) := by rw [hwc, ← sb]; exact cell_new_at _ _ _ _ _ _ rfl rfl
  have v3 : wc.cell? ⟨w.heap.size + 1 + 1, 3, none⟩ = some (.int .i16 a3) := by rw [hwc, ← sb]; exact cell_new_at _ _ _ _ _ _ rfl rfl
  have bc : Below w.heap.size w wc := by rw [hwc]; exact below_alloc bb _
  rw [← hwc]
  clear hwc bb xb sa sb
  refine (sanity_any wc (hR.up bc)).mono ?_
  rintro e w1 ⟨rfl, hb1⟩
  replace y1 := y1.up hb1
  replace xc := (hb1.block _ (by omega)).trans xc
  replace v0 := cell_keep hb1 v0
  replace v1 := cell_keep hb1 v1
  replace v2 := cell_keep hb1 v2
  replace v3 := cell_keep hb1 v3
  replace bc := below_step bc hb1
  have s1 : w.heap.size + 1 + 1 + 1 ≤ w1.heap.size := by have := hb1.size; omega
  clear hb1 sc
  have t1 : decide (70 < B.next.length) = false := by simp; omega
  have t1' : decide ((70 : Int) < (B.next.length : Int)) = false := by simp; omega
  have t2 : decide (70 < B.turn.length) = false := by simp; omega
  have t2' : decide ((70 : Int) < (B.turn.length : Int)) = false := by simp; omega
  obtain ⟨c0, c1, c2, _⟩ := id y1
  go_wp2_with (with_reducible refine wpList_load_row rfl 24 (.tmp 4) rfl (w.heap.size + 1) rfl 24 xs (0, 0) _ xc Tryd.underlying24 rfl (by rw [hx.size]; exact info_raw) ?_)
  clear c0 c1 c2 xc t1 t1' t2 t2'
  refine (wild_own xs x0 x1 x2 nx hx.size hx.b0 hx.b1 hx.b2 hx.bn hx.e0 hx.e1 hx.e2 hx.en w1).mono ?_
  rintro e w2 ⟨on, ot, rfl, hm, hb2⟩
  have hsm := wild_small hx
  generalize wildS (1 + x0 % 8) (1 + x1 % 4) x2 nx = D at hm hsm ⊢
  obtain ⟨an2, cn2, at2, ct2, rfl, rfl, hH2⟩ := id hm.held
  have b1c := below_alloc hb2 (.cells #[.int .i64 D.cells, .slice an2 D.next.length cn2, .slice at2 D.turn.length ct2] 31)
  have yo := InBox.new cn2 ct2 hH2
  have f0 : (w2.alloc (.cells #[.int .i64 D.cells, .slice an2 D.next.length cn2, .slice at2 D.turn.length ct2] 31)).frozen? ⟨w2.heap.size, 0, none⟩ = false := by unfold World.frozen?; rw [World.alloc_heap_new]; simp
  have f2 : (w2.alloc (.cells #[.int .i64 D.cells, .slice an2 D.next.length cn2, .slice at2 D.turn.length ct2] 31)).frozen? ⟨w2.heap.size, 2, none⟩ = false := by unfold World.frozen?; rw [World.alloc_heap_new]; simp
  replace hm := hm.up_.below (below_alloc (Below.refl _ _) (.cells #[.int .i64 D.cells, .slice an2 D.next.length cn2, .slice at2 D.turn.length ct2] 31))
  have hs2 := hb2.size
  have hq : w2.heap.size < (w2.alloc (.cells #[.int .i64 D.cells, .slice an2 D.next.length cn2, .slice at2 D.turn.length ct2] 31)).heap.size := by rw [World.size_alloc]; omega
  clear hb2 hH2
  go_wp2_with fail
  generalize w2.alloc (.cells #[.int .i64 D.cells, .slice an2 D.next.length cn2, .slice at2 D.turn.length ct2] 31) = w3 at *
  generalize w2.heap.size = q at *
  obtain ⟨d0, d1, d2, hHo⟩ := id yo
  refine (valid_all D an2 at2 cn2 ct2 _ _ (Nat.le_refl _) hHo).mono ?_
  rintro e w4 ⟨rfl, hb4⟩
  rw [hsm.valid]
  replace f0 := frozen_keep hb4 d0 f0
  replace f2 := frozen_keep hb4 d2 f2
  replace yo := yo.up hb4
  replace hm := hm.below hb4
  replace b1c := below_step b1c hb4
  have hq4 : q < w4.heap.size := by have := hb4.size; omega
  clear d0 d1 d2 hHo hb4 hq
  obtain ⟨d0, d1, d2, hHo⟩ := id yo
  have hHo' := Lib.hid hHo
  have hok := hsm.ok
  have HTL := Lib.hid hok.turn
  have hD1 : 1 ≤ D.next.length := by have := hsm.turn1; have := hok.turn; omega
  obtain ⟨d, hd⟩ : ∃ d : Nat, d = u0 % D.next.length := ⟨_, rfl⟩
  have hdl : d < D.next.length := by rw [hd]; exact Nat.mod_lt _ hD1
  have hde : (u0 : Int) % (D.next.length : Int) = (d : Int) := by rw [hd]; exact (Int.natCast_emod _ _).symm
  have hd4 := hsm.dirs
  have hc8 := hsm.cells
  clear hd hHo
  replace v0 := cell_keep b1c v0
  replace v1 := cell_keep b1c v1
  obtain ⟨g, ct', e, hg, hgl, hcs⟩ := hm.turn_form hsm.turn1
  cases e
  have b15 : Below w1.heap.size w1 (w4.setCell ⟨q, 2, none⟩ (.slice (some ⟨g, 0, none⟩) d ct2)) := b1c.setCell (by show w1.heap.size ≤ q; omega) _
  have b5q : Alters (fun k => k = q) w4 (w4.setCell ⟨q, 2, none⟩ (.slice (some ⟨g, 0, none⟩) d ct2)) := alters_cell _ _ _ _
  have n0 := (World.cell?_setCell_other w4 ⟨q, 2, none⟩ ⟨q, 0, none⟩ (.slice (some ⟨g, 0, none⟩) d ct2) (by intro e; cases e)).trans d0
  have n1 := (World.cell?_setCell_other w4 ⟨q, 2, none⟩ ⟨q, 1, none⟩ (.slice (some ⟨g, 0, none⟩) d ct2) (by intro e; cases e)).trans d1
  have n2 := World.cell?_setCell_same w4 ⟨q, 2, none⟩ (.slice (some ⟨g, 0, none⟩) d ct2) d2
  have hm5 := (hm.alters b5q (fun k hk => by omega)).made.held
  have hl3 : d < D.turn.length := by have := HTL.out; omega
  have hcap : D.turn.length ≤ ct2 := hm.turn_cap
  have hcap2 : d ≤ ct2 := by omega
  obtain ⟨E, hE⟩ : ∃ E : Brd, E = { D with turn := D.turn.take d } := ⟨_, rfl⟩
  have yo5 : InBox (w4.setCell ⟨q, 2, none⟩ (.slice (some ⟨g, 0, none⟩) d ct2)) q an2 (some ⟨g, 0, none⟩) cn2 ct2 E := by
    obtain ⟨a, c, t, u, e1, e2, h3⟩ := hm5
    cases e1
    cases e2
    rw [hE]
    have e4 : (D.turn.take d).length = d := by simp; omega
    exact ⟨n0, n1, by show _ = some (Value.slice _ (D.turn.take d).length _); rw [e4]; exact n2, h3.1, h3.2.take d⟩
  have HM := Lib.hid hm
  have hl2 : (d : Int) ≤ (ct2 : Int) := by omega
  clear hm hcs hm5 n0 n1 n2 b5q hE hok hsm yo
  clear v2 v3
  go_wp2_with fail
  generalize w4.setCell ⟨q, 2, none⟩ (.slice (some ⟨g, 0, none⟩) d ct2) = w5 at *
  clear d0 d1 d2 v0 v1 hHo'
  have y5 := y1.up b15
  have b5 := below_step bc b15
  clear y1 bc b15 hR hH hx
  obtain ⟨c0, c1, c2, hHB⟩ := id y5
  obtain ⟨d0, d1, d2, hHE⟩ := id yo5
  have hvB := fun W (hW : Below w5.heap.size w5 W) => valid_all B an at_ cn ct _ W hW.size (hHB.up (Nat.le_refl _) hW)
  have hrB := fun W (hW : Below w5.heap.size w5 W) => refValid_any B an at_ cn ct _ W hW.size (hHB.up (Nat.le_refl _) hW)
  have hvE := fun W (hW : Below w5.heap.size w5 W) => valid_all E an2 (some ⟨g, 0, none⟩) cn2 ct2 _ W hW.size (hHE.up (Nat.le_refl _) hW)
  have hrE := fun W (hW : Below w5.heap.size w5 W) => refValid_any E an2 (some ⟨g, 0, none⟩) cn2 ct2 _ W hW.size (hHE.up (Nat.le_refl _) hW)
  clear hHB hHE y5 yo5
  generalize validS B = vb at hvB hrB
  generalize validS E = ve at hvE hrE
  have HVB := Lib.hid hvB
  have HRB := Lib.hid hrB
  have HVE := Lib.hid hvE
  have HRE := Lib.hid hrE
  clear hvB hrB hvE hrE
  go_wp2_with fail
  go_region_held3 (fun w' => w'.cell? ⟨w.heap.size, 0, none⟩ = some (.int .i64 B.cells) ∧ w'.cell? ⟨w.heap.size, 1, none⟩ = some (.slice an B.next.length cn) ∧ w'.cell? ⟨w.heap.size, 2, none⟩ = some (.slice at_ B.turn.length ct) ∧ w'.cell? ⟨q, 0, none⟩ = some (.int .i64 E.cells) ∧ w'.cell? ⟨q, 1, none⟩ = some (.slice an2 E.next.length cn2) ∧ w'.cell? ⟨q, 2, none⟩ = some (.slice (some ⟨g, 0, none⟩) E.turn.length ct2) ∧ Below w5.heap.size w5 w')
    (first
      | (go_keep; done)
      | ((try go_split_ands)
         refine ⟨?_, ?_, ?_, ?_, ?_, ?_, ?_⟩
         · first | exact cell_keep (by assumption) (by assumption) | (go_keep; done)
         · first | exact cell_keep (by assumption) (by assumption) | (go_keep; done)
         · first | exact cell_keep (by assumption) (by assumption) | (go_keep; done)
         · first | exact cell_keep (by assumption) (by assumption) | (go_keep; done)
         · first | exact cell_keep (by assumption) (by assumption) | (go_keep; done)
         · first | exact cell_keep (by assumption) (by assumption) | (go_keep; done)
         · (repeat (first | exact Below.refl _ _ | assumption | refine below_alloc ?_ _ | refine Below.drew ?_ | refine below_drewN_ ?_ _ | refine below_step ?_ (by assumption)))))
    (first
      | ((with_reducible refine (HVB.out _ (by (repeat (first | exact Below.refl _ _ | assumption | refine below_alloc ?_ _ | refine Below.drew ?_ | refine below_drewN_ ?_ _ | refine below_step ?_ (by assumption))))).mono ?_); rintro e w' ⟨rfl, hbb⟩)
      | ((with_reducible refine (HVE.out _ (by (repeat (first | exact Below.refl _ _ | assumption | refine below_alloc ?_ _ | refine Below.drew ?_ | refine below_drewN_ ?_ _ | refine below_step ?_ (by assumption))))).mono ?_); rintro e w' ⟨rfl, hbb⟩)
      | ((with_reducible refine (HRB.out _ (by (repeat (first | exact Below.refl _ _ | assumption | refine below_alloc ?_ _ | refine Below.drew ?_ | refine below_drewN_ ?_ _ | refine below_step ?_ (by assumption))))).mono ?_); rintro e w' ⟨rfl, hbb⟩)
      | ((with_reducible refine (HRE.out _ (by (repeat (first | exact Below.refl _ _ | assumption | refine below_alloc ?_ _ | refine Below.drew ?_ | refine below_drewN_ ?_ _ | refine below_step ?_ (by assumption))))).mono ?_); rintro e w' ⟨rfl, hbb⟩))
  rename_i hS
  have hbX := hS.2.2.2.2.2.2
  clear hS
  go_wp2
  go_ret
  exact ⟨rfl, below_step b5 hbX⟩
end Go.Proofs.YtcpjkilnbhfpjaaDoor
