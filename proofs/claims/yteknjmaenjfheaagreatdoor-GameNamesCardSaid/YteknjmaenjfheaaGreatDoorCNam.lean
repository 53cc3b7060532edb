/-
  GameNames of the laws.
-/
import Derived.Test.YteknjmaenjfheaaGreatDoorCSam
import Derived.Test.YteknjmaenjfheaaGreatDoorKGame
namespace Go.Proofs.YteknjmaenjfheaaGreatDoor
open Go Go.RowKit Go.Lib
attribute [local irreducible] Go.wpQuiet

/-- What a round over the kinds reads. -/
structure NC (w : World) (gb kb ko : Nat) (v0 v1 v2 v3 v4 v5 v6 v7 v8 u0 : Value) (W : World) : Prop where
  b : Below w.heap.size w W
  g0 : W.cell? ⟨gb, 0, none⟩ = some v0
  g1 : W.cell? ⟨gb, 1, none⟩ = some v1
  g2 : W.cell? ⟨gb, 2, none⟩ = some v2
  g3 : W.cell? ⟨gb, 3, none⟩ = some v3
  g4 : W.cell? ⟨gb, 4, none⟩ = some v4
  g5 : W.cell? ⟨gb, 5, none⟩ = some v5
  g6 : W.cell? ⟨gb, 6, none⟩ = some v6
  g7 : W.cell? ⟨gb, 7, none⟩ = some v7
  g8 : W.cell? ⟨gb, 8, none⟩ = some v8
  nm : W.cell? ⟨kb, ko, none⟩ = some u0
theorem NC.up {w W W' : World} {gb kb ko : Nat} {v0 v1 v2 v3 v4 v5 v6 v7 v8 u0 : Value} (h : NC w gb kb ko v0 v1 v2 v3 v4 v5 v6 v7 v8 u0 W) (hb : Below W.heap.size W W') : NC w gb kb ko v0 v1 v2 v3 v4 v5 v6 v7 v8 u0 W' :=
  ⟨below_step h.b hb, cell_keep hb h.g0, cell_keep hb h.g1, cell_keep hb h.g2, cell_keep hb h.g3, cell_keep hb h.g4, cell_keep hb h.g5, cell_keep hb h.g6, cell_keep hb h.g7, cell_keep hb h.g8, cell_keep hb h.nm⟩
theorem any_take {α : Type} (p : α → Bool) (l : List α) (q : Nat) (h : q < l.length) : (l.take (q + 1)).any p = ((l.take q).any p || p (l[q]'h)) := by
  rw [List.take_add_one, List.getElem?_eq_getElem h, List.any_append]
  simp
theorem find_cases (ks : List KindD) (s : List UInt8) : (findD ks s = -1 ∧ (ks.any fun k => decide (k.name = s)) = false) ∨ ∃ (i : Nat) (hi : i < ks.length), findD ks s = (i : Int) ∧ (ks[i]'hi).name = s ∧ (ks.any fun k => decide (k.name = s)) = true := by
  unfold findD idxD
  cases h : ks.findIdx? (fun k => decide (k.name = s)) with
  | none =>
    left
    have := List.findIdx?_eq_none_iff.1 h
    exact ⟨rfl, List.any_eq_false.2 (fun k hk => by rw [this k hk]; simp)⟩
  | some i =>
    right
    obtain ⟨hi, hp, _⟩ := List.findIdx?_eq_some_iff_getElem.1 h
    exact ⟨i, hi, rfl, by simpa using hp, List.any_eq_true.2 ⟨_, List.getElem_mem hi, hp⟩⟩

set_option maxRecDepth 100000 in
set_option maxHeartbeats 3000000 in
theorem nam_any (x : GRaw) (a0 a1 a2 : Option Addr) (c0 c1 c2 N : Nat) (s : List UInt8) (w : World) (hN : N ≤ w.heap.size) (hI : GRawIn N w a0 a1 a2 x) (hL : LibIn w) (hR : ResIn w) :
    Calls Tryz.prog 7 #[.agg (x.cells a0 a1 a2 c0 c1 c2), .string ⟨s.toArray⟩] w fun e w' => e = .returned (.bool true) ∧ Below w.heap.size w w' := by
  have hbA : Below w.heap.size w (w.alloc (.cells (x.cells a0 a1 a2 c0 c1 c2) 27)) := below_alloc (Below.refl _ w) _
  have hx1 : (w.alloc (.cells (x.cells a0 a1 a2 c0 c1 c2) 27)).heap[w.heap.size]? = some (.cells (x.cells a0 a1 a2 c0 c1 c2) 27 (0, 0)) := hpn _ rfl
  have HS := Lib.hid (fun W (h : Below w.heap.size w W) => sanity_any W (hL.up h) (hR.up h))
  have HM := Lib.hid (fun W (h : Below w.heap.size w W) => made_any x a0 a1 a2 c0 c1 c2 N W (Nat.le_trans hN h.size) (hI.up hN h))
  clear hL hR hI hN
  unfold GRaw.cells at *
  go_enter Tryz.func7, Tryz.ntmps7
  go_upto_region 1 with (fail)
  generalize w.alloc (.cells #[.int .u8 x.w, .int .u8 x.h, .int .u8 x.cut, .slice a0 x.k0.length c0, .slice a1 x.k1.length c1, .slice a2 x.c.length c2, .int .u8 (x.f 0), .int .u8 (x.f 1), .int .u8 (x.f 2), .int .u8 (x.f 3), .int .u8 (x.f 4), .int .u8 (x.f 5)] 27) = w1 at *
  go_wp2_with fail
  refine (HS.out w1 hbA).mono ?_
  rintro e w2 ⟨rfl, hb2⟩
  have hx2 := (hb2.block _ (bx_lt hx1)).trans hx1
  have HB2 := Lib.hid (below_step hbA hb2)
  clear hx1 hbA hb2 HS
  by_cases hs : 20 < s.length
  · have t1 : decide ((20 : Int) < (s.length : Int)) = true := by rw [decide_eq_true_eq]; omega
    clear hx2 HM
    go_wp2
    go_ret
    exact ⟨by rfl, HB2.out⟩
  have t1 : decide ((20 : Int) < (s.length : Int)) = false := by rw [decide_eq_false_iff_not]; omega
  have r0 := bx_cell hx2 0 rfl
  have r1 := bx_cell hx2 1 rfl
  have r2 := bx_cell hx2 2 rfl
  have r3 := bx_cell hx2 3 rfl
  have r4 := bx_cell hx2 4 rfl
  have r5 := bx_cell hx2 5 rfl
  have r6 := bx_cell hx2 6 rfl
  have r7 := bx_cell hx2 7 rfl
  have r8 := bx_cell hx2 8 rfl
  have r9 := bx_cell hx2 9 rfl
  have r10 := bx_cell hx2 10 rfl
  have r11 := bx_cell hx2 11 rfl
  clear hx2
  go_wp2_with fail
  refine (HM.out w2 HB2.out).mono ?_
  rintro e w3 ⟨y, rfl, hG3, hb3⟩
  clear r0 r1 r2 r3 r4 r5 r6 r7 r8 r9 r10 r11 HM
  have HFN := Lib.hid (made_find x)
  have hk2 : (madeD x).kinds.length ≤ 2 := by rw [made_len]; have := kindN_two x; omega
  generalize madeD x = g at *
  have hbB : Below w3.heap.size w3 (w3.alloc (.cells (g.cells y) 38)) := below_alloc (Below.refl _ _) _
  have hbox : (w3.alloc (.cells (g.cells y) 38)).heap[w3.heap.size]? = some (.cells (g.cells y) 38 (0, 0)) := hpn _ rfl
  have HG4 := Lib.hid (hG3.up (Nat.le_refl _) hbB)
  have HN4 := Lib.hid hbB.size
  have HB4 := Lib.hid (below_step (below_step HB2.out hb3) hbB)
  clear hb3 hG3 hbB
  have HFI : Hid (∀ W t, w3.heap.size ≤ W.heap.size → GameIn w3.heap.size W y g → Calls Tryz.prog 16 #[.agg (g.cells y), .string ⟨t.toArray⟩] W fun e w' => e = .returned (.int .i64 (findD g.kinds t)) ∧ Below W.heap.size W w') := Lib.hid (fun W t h1 h2 => gfind_any g y t w3.heap.size W (by unfold maxLen; omega) h1 h2.kinds)
  unfold GameD.cells at *
  go_wp2
  obtain ⟨gb, hgb⟩ : ∃ gb, w3.heap.size = gb := ⟨_, rfl⟩
  have HGB : Hid (gb = w3.heap.size) := Lib.hid hgb.symm
  rw [hgb] at hbox HG4 HN4 HFI
  (try simp only [hgb])
  clear hgb
  generalize w3.alloc (.cells #[.int .i64 g.b.cells, .slice y.an g.b.next.length y.cn, .slice y.at_ g.b.turn.length y.ct, .slice y.ak g.kinds.length y.ck, .int .i64 g.rights, .bool g.must, .slice y.ac g.clauses.length y.cc, .int .i64 g.blocked, .int .i64 g.endless] 38) = w4 at *
  have HX4 := Lib.hid hbox
  clear hbox t1 HB2
  go_loopw [7, 8] (fun t i wr => ∃ q : Nat, q ≤ g.kinds.length ∧ i = .int .i64 (q : Int) ∧ t = .bool ((g.kinds.take q).any fun k => decide (k.name = s)) ∧ Hid (Below w4.heap.size w4 wr)) (fun _ i _ => g.kinds.length - (intOf i).toNat)
  case atStart => exact ⟨0, Nat.zero_le _, rfl, by simp, Lib.hid (Below.refl _ _)⟩
  case round =>
    obtain ⟨q, hq, rfl, rfl, HBR⟩ := hrel
    have hxr := (HBR.out.block _ (bx_lt HX4.out)).trans HX4.out
    have HGR := Lib.hid (HG4.out.up HN4.out HBR.out)
    have HNR := Lib.hid (Nat.le_trans HN4.out HBR.out.size)
    by_cases hlt : q < g.kinds.length
    · obtain ⟨b, off, aj, cj, hxa, hbn, z0, z1, _, z2⟩ := HGR.out.kinds.at_ hlt
      have t3 : decide ((q : Int) < (g.kinds.length : Int)) = true := by rw [decide_eq_true_eq]; omega
      have b3 : (0 : Int) ≤ (q : Int) := by omega
      have b4 : (q : Int) < (g.kinds.length : Int) := by omega
      have HFQ := Lib.hid (HFN.out q hlt)
      have HAT := Lib.hid (any_take (fun k : KindD => decide (k.name = s)) g.kinds q hlt)
      generalize (g.kinds[q]'hlt).name = nm at *
      generalize (g.kinds.take q).any (fun k : KindD => decide (k.name = s)) = A at *
      have HFC : Hid (∀ W, Below wr.heap.size wr W → Calls Tryz.prog 16 #[.agg #[.int .i64 g.b.cells, .slice y.an g.b.next.length y.cn, .slice y.at_ g.b.turn.length y.ct, .slice y.ak g.kinds.length y.ck, .int .i64 g.rights, .bool g.must, .slice y.ac g.clauses.length y.cc, .int .i64 g.blocked, .int .i64 g.endless], .string ⟨nm.toArray⟩] W fun e w' => e = .returned (.int .i64 (q : Int)) ∧ Below W.heap.size W w') := Lib.hid (fun W h => by
        have := HFI.out W nm (Nat.le_trans HNR.out h.size) (HGR.out.up HNR.out h)
        rw [HFQ.out] at this
        exact this)
      rw [hxa] at hxr HFC
      have q0 := bx_cell hxr 0 rfl
      have q1 := bx_cell hxr 1 rfl
      have q2 := bx_cell hxr 2 rfl
      have q3 := bx_cell hxr 3 rfl
      have q4 := bx_cell hxr 4 rfl
      have q5 := bx_cell hxr 5 rfl
      have q6 := bx_cell hxr 6 rfl
      have q7 := bx_cell hxr 7 rfl
      have q8 := bx_cell hxr 8 rfl
      have hC : NC wr gb b (off + q * 3) _ _ _ _ _ _ _ _ _ _ wr := ⟨Below.refl _ _, q0, q1, q2, q3, q4, q5, q6, q7, q8, z0⟩
      have hC2 := hC.up (Below.refl _ _).drew
      have HZ0 := Lib.hid z0
      have HXR := Lib.hid hxr
      have HXA := Lib.hid hxa
      clear hC hxr z0 z1 z2 hxa
      go_upto_region 8 with (fail)
      clear q0 q1 q2 q3 q4 q5 q6 q7 q8
      refine wp_region_quiet (C := NC wr gb b (off + q * 3) _ _ _ _ _ _ _ _ _ _) (by kernel_rfl) (by kernel_rfl) hC2 ?_
      clear hC2
      dsimp only
      iterate 7
        refine wpQuiet_val (v := ?_) (by rfl) ?_ ?_
        rotate_left
        · ((intro W hW; (try cases hW); go_simp); try with_reducible rfl)
        (try simp only [Act.put, List.setIfInBounds_toArray, List.set_cons_zero, List.set_cons_succ])
      refine wpQuiet_val (v := .int .i64 (q : Int)) (by rfl) (fun W hW => ?_) ?_
      · go_simp
        exact (HFC.out W hW.b).mono fun e w' ⟨he, hb⟩ => ⟨he, hW.up hb⟩
      (try simp only [Act.put, List.setIfInBounds_toArray, List.set_cons_zero, List.set_cons_succ])
      iterate 2
        refine wpQuiet_val (v := ?_) (by rfl) ?_ ?_
        rotate_left
        · ((intro W hW; (try cases hW); go_simp); try with_reducible rfl)
        (try simp only [Act.put, List.setIfInBounds_toArray, List.set_cons_zero, List.set_cons_succ])
      refine wpQuiet_nil (fun w6 hW => ?_)
      have HB6 := Lib.hid hW.b
      clear hW
      have q3 := bx_cell ((HB6.out.block _ (bx_lt HXR.out)).trans HXR.out) 3 rfl
      have z0 := cell_keep HB6.out HZ0.out
      have HBF := Lib.hid (below_step HBR.out HB6.out)
      cases A with
      | true =>
        go_wp2
        go_roundw
        case rel => exact ⟨q + 1, by omega, by go_num, by rw [HAT.out]; rfl, HBF⟩
        case measure => simp [intOf]; omega
      | false =>
        by_cases hn : nm = s
        · have tn : (nm == s) = true := by simpa using hn
          have HNE : Hid (decide (nm = s) = true) := Lib.hid (by simpa using hn)
          clear hn
          go_wp2
          go_roundw
          case rel => exact ⟨q + 1, by omega, by go_num, by rw [HAT.out, HNE.out]; rfl, HBF⟩
          case measure => simp [intOf]; omega
        · have tn : (nm == s) = false := by simpa using hn
          have HNE : Hid (decide (nm = s) = false) := Lib.hid (by simpa using hn)
          clear hn
          go_wp2
          go_roundw
          case rel => exact ⟨q + 1, by omega, by go_num, by rw [HAT.out, HNE.out]; rfl, HBF⟩
          case measure => simp [intOf]; omega
    · obtain rfl : q = g.kinds.length := by omega
      rw [List.take_length]
      have HFS := Lib.hid (HFI.out wr s HNR.out HGR.out)
      have q0 := bx_cell hxr 0 rfl
      have q1 := bx_cell hxr 1 rfl
      have q2 := bx_cell hxr 2 rfl
      have q3 := bx_cell hxr 3 rfl
      have q4 := bx_cell hxr 4 rfl
      have q5 := bx_cell hxr 5 rfl
      have q6 := bx_cell hxr 6 rfl
      have q7 := bx_cell hxr 7 rfl
      have q8 := bx_cell hxr 8 rfl
      have HXR := Lib.hid hxr
      clear hxr hlt
      go_wp2_with fail
      refine HFS.out.mono ?_
      rintro e w6 ⟨rfl, hb6⟩
      have hx6 := (hb6.block _ (bx_lt HXR.out)).trans HXR.out
      have HG6 := Lib.hid (HGR.out.up HNR.out hb6)
      have HBF := Lib.hid (below_step HB4.out (below_step HBR.out hb6))
      clear hb6 q0 q1 q2 q3 q4 q5 q6 q7 q8 HFS
      rcases find_cases g.kinds s with ⟨hf, hany⟩ | ⟨i, hi, hf, hnm, hany⟩
      · rw [hf, hany]
        clear hf hany
        have q3 := bx_cell hx6 3 rfl
        clear hx6
        go_wp2
        go_ret
        exact ⟨by rfl, HBF.out⟩
      · obtain ⟨b, off, aj, cj, hxa, hbn, z0, z1, _, z2⟩ := HG6.out.kinds.at_ hi
        rw [hf, hany]
        rw [hnm] at z0
        have q3 := bx_cell hx6 3 rfl
        rw [hxa] at q3
        have e1 : decide ((0 : Int) ≤ (i : Int)) = true := by simp
        have e2 : decide ((i : Int) < 0) = false := by simp
        have e3 : decide ((i : Int) < (g.kinds.length : Int)) = true := by rw [decide_eq_true_eq]; omega
        have e4 : decide ((-1 : Int) ≤ (i : Int)) = true := by rw [decide_eq_true_eq]; omega
        have b3 : (0 : Int) ≤ (i : Int) := by omega
        have b4 : (i : Int) < (g.kinds.length : Int) := by omega
        clear hx6 z1 z2 hf hany hnm hxa
        go_wp2
        go_ret
        exact ⟨by first | rfl | simp, HBF.out⟩
end Go.Proofs.YteknjmaenjfheaaGreatDoor
