/-
  At of the program's index.
-/
import Derived.Test.YtepbmgbomdekaaaXRank
namespace Go.Proofs.Ytepbmgbomdekaaa
open Go Go.RowKit

def zeroP : PosS := ⟨[], [], [], 0, 0⟩
/-- What At tells. -/
def atV (bc r : Nat) (ks : List Bool) (p : PosS) (i : Int) : PosS × Nat := if (sizeV bc r ks p).2 = 0 then if 0 ≤ i ∧ i < (sizeV bc r ks p).1 then ({ p with cells := zs (atS (nats p.cells) bc i.toNat) }, 0) else (zeroP, 140) else (zeroP, (sizeV bc r ks p).2)
theorem hands_mat {bc r : Nat} {ks : List Bool} {p : PosS} (h : matB bc r ks p = true) : p.h0.length = ks.length ∧ p.h1.length = ks.length := by
  unfold matB at h
  simp only [Bool.and_eq_true] at h
  exact ⟨hand_len h.2.2.1, hand_len h.2.2.2.1⟩
theorem size_two {bc r : Nat} {ks : List Bool} {p : PosS} (h : (sizeV bc r ks p).2 = 0) : matB bc r ks p = true ∧ ways (nats p.cells) ≤ 1099511627776 ∧ (sizeV bc r ks p).1 = ways (nats p.cells) := by
  unfold sizeV at h ⊢
  by_cases hm : matB bc r ks p = true
  · rw [if_pos hm] at h ⊢
    by_cases hw : ways (nats p.cells) ≤ 1099511627776
    · rw [if_pos hw]; exact ⟨hm, hw, rfl⟩
    · rw [if_neg hw] at h; cases h
  · rw [if_neg hm] at h; cases h

theorem zero_end {fn : Func} (hfn : fn.results = #[.cell 6 27, .tmp 7]) (tmps : Array Value) (x : Nat) (W : World) (hx : tmps.getD 6 undef = .pointer (some ⟨x, 0, none⟩)) (h : W.heap[x]? = some (.cells #[.slice none 0 0, .slice none 0 0, .slice none 0 0, .int .i64 0, .int .i64 0] 27 (0, 0))) :
    (results fn tmps).run Try.prog W = .ok (.tuple #[.agg #[.slice none 0 0, .slice none 0 0, .slice none 0 0, .int .i64 0, .int .i64 0], tmps.getD 7 undef]) W :=
  results_ct hfn tmps _ W ⟨x, 0, none⟩ _ hx (run_loadVar_row W x 27 27 _ (0, 0) _ h Try.underlying27 rfl info_pos)
theorem zero_in (n : Nat) (W : World) : PosIn n W none none none zeroP := ⟨.inl rfl, .inl rfl, .inl rfl⟩
/-- The position that At fills: its box, its lists. -/
structure AtBox (wD : World) (bc B M : Nat) (g0 g1 : Option Addr) (d0 d1 : Nat) (h0 h1 : List Int) (rg sd : Int) (cells : List Int) (W : World) : Prop where
  box : W.heap[B]? = some (.cells #[.slice (some ⟨M, 0, none⟩) bc bc, .slice g0 h0.length d0, .slice g1 h1.length d1, .int .i64 rg, .int .i64 sd] 27 (0, 0))
  own : OwnInts wD.heap.size W (.slice (some ⟨M, 0, none⟩) bc bc) cells
  own0 : OwnInts wD.heap.size W (.slice g0 h0.length d0) h0
  own1 : OwnInts wD.heap.size W (.slice g1 h1.length d1) h1
  bel : Below wD.heap.size wD W
  low : wD.heap.size ≤ B
  ne : ∀ k, (some k = (Value.slice g0 h0.length d0).ownBlock ∨ some k = (Value.slice g1 h1.length d1).ownBlock) → k ≠ M
theorem AtBox.of {wD wZ : World} {bc B M : Nat} {g0 g1 : Option Addr} {d0 d1 : Nat} {h0 h1 : List Int} {rg sd : Int} {cells : List Int} {old : Array Value} (hz : wZ.heap[B]? = some (.cells old 27 (0, 0)))
    (hM : OwnInts wD.heap.size wZ (.slice (some ⟨M, 0, none⟩) bc bc) cells) (ho0 : OwnInts wD.heap.size wZ (.slice g0 h0.length d0) h0) (ho1 : OwnInts wD.heap.size wZ (.slice g1 h1.length d1) h1) (hb : Below wD.heap.size wD wZ) (hl : wD.heap.size ≤ B) (hne : ∀ k, (some k = (Value.slice g0 h0.length d0).ownBlock ∨ some k = (Value.slice g1 h1.length d1).ownBlock) → k ≠ M) :
    AtBox wD bc B M g0 g1 d0 d1 h0 h1 rg sd cells (wZ.setRow B #[.slice (some ⟨M, 0, none⟩) bc bc, .slice g0 h0.length d0, .slice g1 h1.length d1, .int .i64 rg, .int .i64 sd]) := by
  have ha := setRow_alt wZ B #[.slice (some ⟨M, 0, none⟩) bc bc, .slice g0 h0.length d0, .slice g1 h1.length d1, .int .i64 rg, .int .i64 sd]
  have hS : ∀ {v : Value} {l : List Int}, OwnInts wD.heap.size wZ v l → ∀ k, (fun b => b = B) k → ¬ some k = v.ownBlock := fun h k hk => by
    have e : k = B := hk
    subst e
    exact own_ne h hz (by decide)
  exact ⟨setRow_heap wZ B _ _ _ _ hz, hM.alters ha (hS hM), ho0.alters ha (hS ho0), ho1.alters ha (hS ho1), hb.trans (ha.below hb.size (fun k hk => by have e : k = B := hk; omega)), hl, hne⟩
set_option maxRecDepth 100000 in
set_option maxHeartbeats 8000000 in
theorem at_any (bc r : Nat) (ks : List Bool) (vn vt vm vc vb ve : Value) (p : PosS) (i : Int) (ak b b0 b1 : Option Addr) (ck c c0 c1 N : Nat) (w : World) (hbc : bc ≤ 64) (hr : r ≤ 4) (hk1 : 1 ≤ ks.length) (hks : ks.length ≤ 6) (hp : PosFit p) (hN : N ≤ w.heap.size) (hP : PosIn N w b b0 b1 p) (hK : Keeps N w ak ks) :
    Calls Try.prog 18 #[.agg #[.int .i64 (bc : Int), vn, vt, .slice ak ks.length ck, .int .i64 (r : Int), vm, vc, vb, ve], PosV b b0 b1 c c0 c1 p, .int .i64 i] w fun e w' => ∃ a a0 a1 d d0 d1, e = .returned (.tuple #[PosV a a0 a1 d d0 d1 (atV bc r ks p i).1, .int .i64 (((atV bc r ks p i).2 : Nat) : Int)]) ∧ PosIn w'.heap.size w' a a0 a1 (atV bc r ks p i).1 ∧ Below w.heap.size w w' := by
  obtain ⟨V, hV⟩ : ∃ V, atV bc r ks p i = V := ⟨_, rfl⟩
  rw [hV]
  unfold atV at hV
  have HV := Lib.hid hV
  clear hV
  go_enter Try.func18, Try.ntmps18
  go_upto_region 1 with (fail)
  rw [show w.heap.size + 1 + 1 = w.heap.size + 2 from rfl]
  unfold PosV
  obtain ⟨hb0, hG, hQ, hR, hS0⟩ := three_boxes w #[.int .i64 (bc : Int), vn, vt, .slice ak ks.length ck, .int .i64 (r : Int), vm, vc, vb, ve] #[.slice b p.cells.length c, .slice b0 p.h0.length c0, .slice b1 p.h1.length c1, .int .i64 p.rights, .int .i64 p.side] #[.slice none 0 0, .slice none 0 0, .slice none 0 0, .int .i64 0, .int .i64 0] 35 39 27
  generalize ((w.alloc (.cells #[.int .i64 (bc : Int), vn, vt, .slice ak ks.length ck, .int .i64 (r : Int), vm, vc, vb, ve] 35)).alloc (.cells #[.slice b p.cells.length c, .slice b0 p.h0.length c0, .slice b1 p.h1.length c1, .int .i64 p.rights, .int .i64 p.side] 39)).alloc (.cells #[.slice none 0 0, .slice none 0 0, .slice none 0 0, .int .i64 0, .int .i64 0] 27) = w0 at *
  have HS := Lib.hid (size_any bc r ks vn vt vm vc vb ve p ak b b0 b1 ck c c0 c1 N w0 hbc hr hks hp (Nat.le_trans hN hb0.size) (hP.up hN hb0) (hK.below (hb0.mono hN)))
  unfold PosV at HS
  have HP0 := Lib.hid (hP.up hN hb0)
  have hN0 : N ≤ w0.heap.size := Nat.le_trans hN hb0.size
  have HS0 := Lib.hid hS0
  obtain ⟨x, hx⟩ : ∃ x, x = w.heap.size := ⟨_, rfl⟩
  have HX := Lib.hid hx
  simp only [← hx] at hb0 hG hQ hR hS0 hN HS0 ⊢
  clear hP hK hS0 hx
  have hzero : Ints 0 w none ([] : List Int) := .inl rfl
  by_cases he : (sizeV bc r ks p).2 = 0
  · obtain ⟨hm, hw, hs1⟩ := size_two he
    rw [if_pos he, hs1] at HV
    rw [he, hs1] at HS
    by_cases hi : 0 ≤ i ∧ i < ((ways (nats p.cells) : Nat) : Int)
    · rw [if_pos hi] at HV
      obtain ⟨j, rfl⟩ := Int.eq_ofNat_of_zero_le hi.1
      have hj : j < ways (nats p.cells) := by omega
      obtain ⟨l, el, hsum, hll⟩ := mat_some hm
      obtain ⟨hh0, hh1⟩ := hands_mat hm
      have HP1 := Lib.hid (show Ints N w0 b (zs l) by rw [← el]; exact HP0.out.cells)
      have HL := Lib.hid (show p.cells.length = l.length by rw [el, zs_len])
      rw [HL.out] at HS hQ
      rw [el, nats_zs] at HV HS hj hw
      rw [Int.toNat_natCast] at HV
      have HSUM := Lib.hid hsum
      have HLL := Lib.hid hll
      have HH0 := Lib.hid hh0
      have HH1 := Lib.hid hh1
      have hl13 : l.length ≤ 13 := by omega
      have t1 : decide ((j : Int) < 0) = false := by simp
      have t2 : decide (((ways l : Nat) : Int) ≤ (j : Int)) = false := by simp; omega
      clear hm el hsum hll hh0 hh1 hi hs1 he
      go_upto_region 6 with (first | (refine wpList_load_row rfl 35 (.tmp 3) rfl x rfl 35 _ (0, 0) _ hG Try.underlying35 rfl info_game ?_) | (refine wpList_load_row rfl 39 (.tmp 4) rfl (x + 1) rfl 39 _ (0, 0) _ hQ Try.underlying39 rfl info_mat ?_) | (go_at_call 14; refine HS.out.mono ?_; rintro e w1 ⟨rfl, hb1⟩; have hR1 := hp_up hR hb1))
      have hG1 := hp_up hG hb1
      have hQ1 := hp_up hQ hb1
      have hN1 : N ≤ w1.heap.size := by have := hb1.size; omega
      have hB1 : Below w.heap.size w w1 := by have e := HX.out; rw [← e]; exact hb0.trans (hb1.mono (by have := HS0.out; omega))
      have hC1 := (GM.of hB1 hG1 hQ1).drew
      have hd : Below w1.heap.size w1 w1.drew := (Below.refl _ _).drew
      have hPd := (HP0.out.up hN0 hb1).up hN1 hd
      have HI := Lib.hid ((HP1.out.up hN0 hb1).up hN1 hd)
      have HH0d := Lib.hid hPd.h0
      have HH1d := Lib.hid hPd.h1
      have hRd : w1.drew.heap[x + 2]? = _ := hR1
      have hNd : N ≤ w1.drew.heap.size := hN1
      have HC := Lib.hid (fun W (hb : Below w1.drew.heap.size w1.drew W) => icopied_any p.h0 p.h1 b0 b1 c0 c1 N W (by have := HH0.out; omega) (by have := HH0.out; omega) (by have := HH1.out; omega) (by have := HH1.out; omega) (Nat.le_trans hNd hb.size) (HH0d.out.below (hb.mono hNd)) (HH1d.out.below (hb.mono hNd)))
      clear hb0 hG hR hQ hR1 hG1 hQ1 hB1 hd hPd hN0 HP0 HP1 HS hb1
      go_cut [10] (fun v wx => ∃ B M g0 g1 d0 d1, v = .pointer (some ⟨B, 0, none⟩) ∧ AtBox w1.drew bc B M g0 g1 d0 d1 p.h0 p.h1 p.rights p.side (List.replicate bc 0) wx)
      case first =>
        refine wp_region_held_drew (S := GM w x (x + 1) 39 (.int .i64 (bc : Int)) vn vt (.slice ak ks.length ck) (.int .i64 (r : Int)) vm vc vb ve (.slice b l.length c) (.slice b0 p.h0.length c0) (.slice b1 p.h1.length c1) (.int .i64 p.rights) (.int .i64 p.side)) (by kernel_rfl) hC1 (fun hSwD => ?_)
        generalize w1.drew = wD at *
        refine TC 0 ?_
        (try simp only [pS])
        refine TC 1 ?_
        (try simp only [pS])
        refine TC 2 ?_
        (try simp only [pS])
        refine TC 4 ?_
        (try simp only [pS])
        refine TX 5 (YL rfl 25 _ rfl (x + 1) 1 rfl _ [.slice b0 p.h0.length c0, .slice b1 p.h1.length c1] _ _ (fun _ h => h.hq) rfl Try.underlying25 rfl info_hand) ?_
        (try simp only [pS])
        refine TC 7 ?_
        (try simp only [pS])
        refine TC 8 ?_
        (try simp only [pS])
        refine TC 9 ?_
        (try simp only [pS])
        refine TC 10 ?_
        (try simp only [pS])
        refine wpAnyH_ready (rs := [3, 6, 12]) (by kernel_rfl) (by simp) ?_
        refine AC (i := 3) (fun K hK => ?_) ?_
        · refine step_mk rfl _ _ rfl bc rfl rfl (by omega) ?_
          intro wa hoMwa hbwa
          have hSwa := hSwD.up hbwa
          refine hK.out _ _ hSwa (fun _ => ?_)
          clear hK K
          (try simp only [pS])
          refine wpAnyH_ready (rs := [6, 12]) (by kernel_rfl) (by simp) ?_
          refine AC (i := 6) (fun K hK => ?_) ?_
          · refine step_call_h rfl 32 _ _ #[.agg #[.slice b0 p.h0.length c0, .slice b1 p.h1.length c1]] rfl rfl (enters_of Try.func32 (by kernel_rfl) rfl) ((HC.out wa hbwa).mono ?_)
            rintro e wb ⟨g0, g1, d0, d1, rfl, o0wb, o1wb, hbwb⟩
            have hSwb := hSwa.up hbwb
            refine ⟨_, rfl, hK.out _ _ hSwb (fun _ => ?_)⟩
            clear hK K
            (try simp only [pS])
            refine TC 11 ?_
            (try simp only [pS])
            refine wpAnyH_ready (rs := [12]) (by kernel_rfl) (by simp) ?_
            refine AC (i := 12) (fun K hK => ?_) AllReadyH.nil
            refine step_al rfl (cs := #[.slice none 0 0, .slice none 0 0, .slice none 0 0, .int .i64 0, .int .i64 0]) (t := 27) (by go_simp; try rfl) ?_
            have hbwc : Below wb.heap.size wb (wb.alloc (.cells #[.slice none 0 0, .slice none 0 0, .slice none 0 0, .int .i64 0, .int .i64 0] 27)) := below_alloc (Below.refl _ _) _
            have hzwc := World.alloc_heap_new wb (.cells #[.slice none 0 0, .slice none 0 0, .slice none 0 0, .int .i64 0, .int .i64 0] 27)
            have hSwc := hSwb.up hbwc
            refine hK.out _ _ hSwc (fun _ => ?_)
            clear hK K
            (try simp only [pS])
            generalize wb.alloc (.cells #[.slice none 0 0, .slice none 0 0, .slice none 0 0, .int .i64 0, .int .i64 0] 27) = wc at *
            have hzz := hzwc
            refine wpAnyH_ready (rs := [13]) (by kernel_rfl) (by simp) ?_
            refine AC (i := 13) (fun K hK => ?_) AllReadyH.nil
            refine step_store_rw rfl 27 _ _ rfl _ _ rfl rfl 27 _ hzz info_pos rfl (by simp [Value.oneCell']) ?_
            have hne : ∀ k, (some k = (Value.slice g0 p.h0.length d0).ownBlock ∨ some k = (Value.slice g1 p.h1.length d1).ownBlock) → k ≠ wD.heap.size := by
              intro k hk e
              have l1 := (World.ownsRow.lt hoMwa wD.heap.size rfl).2
              have s1 := hbwa.size
              have s2 := hbwb.size
              have s3 := hbwc.size
              rcases hk with hk | hk
              · have := World.ownsRow.lt o0wb k hk.symm; omega
              · have := World.ownsRow.lt o1wb k hk.symm; omega
            have hAB := AtBox.of (rg := p.rights) (sd := p.side) hzz (((OwnInts.mono hoMwa (Nat.le_refl _)).upx hbwb).upx hbwc) ((OwnInts.mono o0wb hbwa.size).upx hbwc) ((OwnInts.mono o1wb hbwa.size).upx hbwc) (below_step (below_step hbwa hbwb) hbwc) (Nat.le_trans hbwa.size hbwb.size) hne
            refine hK.out _ _ (hSwc.row _ hAB.low (bx_lt hSwD.hq) HX.out) (fun _ => ?_)
            clear hK K
            refine wpAnyH_done (by kernel_rfl) ?_ _
            go_wp2_with fail
            go_meet
            case rel => exact ⟨_, _, _, _, _, _, rfl, hAB⟩
          refine AC (i := 12) (fun K hK => ?_) AllReadyH.nil
          refine step_al rfl (cs := #[.slice none 0 0, .slice none 0 0, .slice none 0 0, .int .i64 0, .int .i64 0]) (t := 27) (by go_simp; try rfl) ?_
          have hbwb : Below wa.heap.size wa (wa.alloc (.cells #[.slice none 0 0, .slice none 0 0, .slice none 0 0, .int .i64 0, .int .i64 0] 27)) := below_alloc (Below.refl _ _) _
          have hzwb := World.alloc_heap_new wa (.cells #[.slice none 0 0, .slice none 0 0, .slice none 0 0, .int .i64 0, .int .i64 0] 27)
          have hSwb := hSwa.up hbwb
          refine hK.out _ _ hSwb (fun _ => ?_)
          clear hK K
          (try simp only [pS])
          generalize wa.alloc (.cells #[.slice none 0 0, .slice none 0 0, .slice none 0 0, .int .i64 0, .int .i64 0] 27) = wb at *
          refine wpAnyH_ready (rs := [6]) (by kernel_rfl) (by simp) ?_
          refine AC (i := 6) (fun K hK => ?_) AllReadyH.nil
          refine step_call_h rfl 32 _ _ #[.agg #[.slice b0 p.h0.length c0, .slice b1 p.h1.length c1]] rfl rfl (enters_of Try.func32 (by kernel_rfl) rfl) ((HC.out wb (below_step hbwa hbwb)).mono ?_)
          rintro e wc ⟨g0, g1, d0, d1, rfl, o0wc, o1wc, hbwc⟩
          have hSwc := hSwb.up hbwc
          refine ⟨_, rfl, hK.out _ _ hSwc (fun _ => ?_)⟩
          clear hK K
          (try simp only [pS])
          refine TC 11 ?_
          (try simp only [pS])
          have hzz := hp_up hzwb hbwc
          refine wpAnyH_ready (rs := [13]) (by kernel_rfl) (by simp) ?_
          refine AC (i := 13) (fun K hK => ?_) AllReadyH.nil
          refine step_store_rw rfl 27 _ _ rfl _ _ rfl rfl 27 _ hzz info_pos rfl (by simp [Value.oneCell']) ?_
          have hne : ∀ k, (some k = (Value.slice g0 p.h0.length d0).ownBlock ∨ some k = (Value.slice g1 p.h1.length d1).ownBlock) → k ≠ wD.heap.size := by
            intro k hk e
            have l1 := (World.ownsRow.lt hoMwa wD.heap.size rfl).2
            have s1 := hbwa.size
            have s2 := hbwb.size
            have s3 := hbwc.size
            rcases hk with hk | hk
            · have := World.ownsRow.lt o0wc k hk.symm; omega
            · have := World.ownsRow.lt o1wc k hk.symm; omega
          have hAB := AtBox.of (rg := p.rights) (sd := p.side) hzz (((OwnInts.mono hoMwa (Nat.le_refl _)).upx hbwb).upx hbwc) (OwnInts.mono o0wc (Nat.le_trans hbwa.size hbwb.size)) (OwnInts.mono o1wc (Nat.le_trans hbwa.size hbwb.size)) (below_step (below_step hbwa hbwb) hbwc) hbwa.size hne
          refine hK.out _ _ (hSwc.row _ hAB.low (bx_lt hSwD.hq) HX.out) (fun _ => ?_)
          clear hK K
          refine wpAnyH_done (by kernel_rfl) ?_ _
          go_wp2_with fail
          go_meet
          case rel => exact ⟨_, _, _, _, _, _, rfl, hAB⟩
        refine AC (i := 6) (fun K hK => ?_) ?_
        · refine step_call_h rfl 32 _ _ #[.agg #[.slice b0 p.h0.length c0, .slice b1 p.h1.length c1]] rfl rfl (enters_of Try.func32 (by kernel_rfl) rfl) ((HC.out wD (Below.refl _ _)).mono ?_)
          rintro e wa ⟨g0, g1, d0, d1, rfl, o0wa, o1wa, hbwa⟩
          have hSwa := hSwD.up hbwa
          refine ⟨_, rfl, hK.out _ _ hSwa (fun _ => ?_)⟩
          clear hK K
          (try simp only [pS])
          refine wpAnyH_ready (rs := [3, 12]) (by kernel_rfl) (by simp) ?_
          refine AC (i := 3) (fun K hK => ?_) ?_
          · refine step_mk rfl _ _ rfl bc rfl rfl (by omega) ?_
            intro wb hoMwb hbwb
            have hSwb := hSwa.up hbwb
            refine hK.out _ _ hSwb (fun _ => ?_)
            clear hK K
            (try simp only [pS])
            refine TC 11 ?_
            (try simp only [pS])
            refine wpAnyH_ready (rs := [12]) (by kernel_rfl) (by simp) ?_
            refine AC (i := 12) (fun K hK => ?_) AllReadyH.nil
            refine step_al rfl (cs := #[.slice none 0 0, .slice none 0 0, .slice none 0 0, .int .i64 0, .int .i64 0]) (t := 27) (by go_simp; try rfl) ?_
            have hbwc : Below wb.heap.size wb (wb.alloc (.cells #[.slice none 0 0, .slice none 0 0, .slice none 0 0, .int .i64 0, .int .i64 0] 27)) := below_alloc (Below.refl _ _) _
            have hzwc := World.alloc_heap_new wb (.cells #[.slice none 0 0, .slice none 0 0, .slice none 0 0, .int .i64 0, .int .i64 0] 27)
            have hSwc := hSwb.up hbwc
            refine hK.out _ _ hSwc (fun _ => ?_)
            clear hK K
            (try simp only [pS])
            generalize wb.alloc (.cells #[.slice none 0 0, .slice none 0 0, .slice none 0 0, .int .i64 0, .int .i64 0] 27) = wc at *
            have hzz := hzwc
            refine wpAnyH_ready (rs := [13]) (by kernel_rfl) (by simp) ?_
            refine AC (i := 13) (fun K hK => ?_) AllReadyH.nil
            refine step_store_rw rfl 27 _ _ rfl _ _ rfl rfl 27 _ hzz info_pos rfl (by simp [Value.oneCell']) ?_
            have hne : ∀ k, (some k = (Value.slice g0 p.h0.length d0).ownBlock ∨ some k = (Value.slice g1 p.h1.length d1).ownBlock) → k ≠ wa.heap.size := by
              intro k hk e
              have l1 := (World.ownsRow.lt hoMwb wa.heap.size rfl).2
              have s1 := hbwa.size
              have s2 := hbwb.size
              have s3 := hbwc.size
              rcases hk with hk | hk
              · have := World.ownsRow.lt o0wa k hk.symm; omega
              · have := World.ownsRow.lt o1wa k hk.symm; omega
            have hAB := AtBox.of (rg := p.rights) (sd := p.side) hzz ((OwnInts.mono hoMwb hbwa.size).upx hbwc) (((OwnInts.mono o0wa (Nat.le_refl _)).upx hbwb).upx hbwc) (((OwnInts.mono o1wa (Nat.le_refl _)).upx hbwb).upx hbwc) (below_step (below_step hbwa hbwb) hbwc) (Nat.le_trans hbwa.size hbwb.size) hne
            refine hK.out _ _ (hSwc.row _ hAB.low (bx_lt hSwD.hq) HX.out) (fun _ => ?_)
            clear hK K
            refine wpAnyH_done (by kernel_rfl) ?_ _
            go_wp2_with fail
            go_meet
            case rel => exact ⟨_, _, _, _, _, _, rfl, hAB⟩
          refine AC (i := 12) (fun K hK => ?_) AllReadyH.nil
          refine step_al rfl (cs := #[.slice none 0 0, .slice none 0 0, .slice none 0 0, .int .i64 0, .int .i64 0]) (t := 27) (by go_simp; try rfl) ?_
          have hbwb : Below wa.heap.size wa (wa.alloc (.cells #[.slice none 0 0, .slice none 0 0, .slice none 0 0, .int .i64 0, .int .i64 0] 27)) := below_alloc (Below.refl _ _) _
          have hzwb := World.alloc_heap_new wa (.cells #[.slice none 0 0, .slice none 0 0, .slice none 0 0, .int .i64 0, .int .i64 0] 27)
          have hSwb := hSwa.up hbwb
          refine hK.out _ _ hSwb (fun _ => ?_)
          clear hK K
          (try simp only [pS])
          generalize wa.alloc (.cells #[.slice none 0 0, .slice none 0 0, .slice none 0 0, .int .i64 0, .int .i64 0] 27) = wb at *
          refine wpAnyH_ready (rs := [3]) (by kernel_rfl) (by simp) ?_
          refine AC (i := 3) (fun K hK => ?_) AllReadyH.nil
          refine step_mk rfl _ _ rfl bc rfl rfl (by omega) ?_
          intro wc hoMwc hbwc
          have hSwc := hSwb.up hbwc
          refine hK.out _ _ hSwc (fun _ => ?_)
          clear hK K
          (try simp only [pS])
          refine TC 11 ?_
          (try simp only [pS])
          have hzz := hp_up hzwb hbwc
          refine wpAnyH_ready (rs := [13]) (by kernel_rfl) (by simp) ?_
          refine AC (i := 13) (fun K hK => ?_) AllReadyH.nil
          refine step_store_rw rfl 27 _ _ rfl _ _ rfl rfl 27 _ hzz info_pos rfl (by simp [Value.oneCell']) ?_
          have hne : ∀ k, (some k = (Value.slice g0 p.h0.length d0).ownBlock ∨ some k = (Value.slice g1 p.h1.length d1).ownBlock) → k ≠ wb.heap.size := by
            intro k hk e
            have l1 := (World.ownsRow.lt hoMwc wb.heap.size rfl).2
            have s1 := hbwa.size
            have s2 := hbwb.size
            have s3 := hbwc.size
            rcases hk with hk | hk
            · have := World.ownsRow.lt o0wa k hk.symm; omega
            · have := World.ownsRow.lt o1wa k hk.symm; omega
          have hAB := AtBox.of (rg := p.rights) (sd := p.side) hzz (OwnInts.mono hoMwc (Nat.le_trans hbwa.size hbwb.size)) (((OwnInts.mono o0wa (Nat.le_refl _)).upx hbwb).upx hbwc) (((OwnInts.mono o1wa (Nat.le_refl _)).upx hbwb).upx hbwc) (below_step (below_step hbwa hbwb) hbwc) hbwa.size hne
          refine hK.out _ _ (hSwc.row _ hAB.low (bx_lt hSwD.hq) HX.out) (fun _ => ?_)
          clear hK K
          refine wpAnyH_done (by kernel_rfl) ?_ _
          go_wp2_with fail
          go_meet
          case rel => exact ⟨_, _, _, _, _, _, rfl, hAB⟩
        refine AC (i := 12) (fun K hK => ?_) AllReadyH.nil
        refine step_al rfl (cs := #[.slice none 0 0, .slice none 0 0, .slice none 0 0, .int .i64 0, .int .i64 0]) (t := 27) (by go_simp; try rfl) ?_
        have hbwa : Below wD.heap.size wD (wD.alloc (.cells #[.slice none 0 0, .slice none 0 0, .slice none 0 0, .int .i64 0, .int .i64 0] 27)) := below_alloc (Below.refl _ _) _
        have hzwa := World.alloc_heap_new wD (.cells #[.slice none 0 0, .slice none 0 0, .slice none 0 0, .int .i64 0, .int .i64 0] 27)
        have hSwa := hSwD.up hbwa
        refine hK.out _ _ hSwa (fun _ => ?_)
        clear hK K
        (try simp only [pS])
        generalize wD.alloc (.cells #[.slice none 0 0, .slice none 0 0, .slice none 0 0, .int .i64 0, .int .i64 0] 27) = wa at *
        refine wpAnyH_ready (rs := [3, 6]) (by kernel_rfl) (by simp) ?_
        refine AC (i := 3) (fun K hK => ?_) ?_
        · refine step_mk rfl _ _ rfl bc rfl rfl (by omega) ?_
          intro wb hoMwb hbwb
          have hSwb := hSwa.up hbwb
          refine hK.out _ _ hSwb (fun _ => ?_)
          clear hK K
          (try simp only [pS])
          refine wpAnyH_ready (rs := [6]) (by kernel_rfl) (by simp) ?_
          refine AC (i := 6) (fun K hK => ?_) AllReadyH.nil
          refine step_call_h rfl 32 _ _ #[.agg #[.slice b0 p.h0.length c0, .slice b1 p.h1.length c1]] rfl rfl (enters_of Try.func32 (by kernel_rfl) rfl) ((HC.out wb (below_step hbwa hbwb)).mono ?_)
          rintro e wc ⟨g0, g1, d0, d1, rfl, o0wc, o1wc, hbwc⟩
          have hSwc := hSwb.up hbwc
          refine ⟨_, rfl, hK.out _ _ hSwc (fun _ => ?_)⟩
          clear hK K
          (try simp only [pS])
          refine TC 11 ?_
          (try simp only [pS])
          have hzz := hp_up (hp_up hzwa hbwb) hbwc
          refine wpAnyH_ready (rs := [13]) (by kernel_rfl) (by simp) ?_
          refine AC (i := 13) (fun K hK => ?_) AllReadyH.nil
          refine step_store_rw rfl 27 _ _ rfl _ _ rfl rfl 27 _ hzz info_pos rfl (by simp [Value.oneCell']) ?_
          have hne : ∀ k, (some k = (Value.slice g0 p.h0.length d0).ownBlock ∨ some k = (Value.slice g1 p.h1.length d1).ownBlock) → k ≠ wa.heap.size := by
            intro k hk e
            have l1 := (World.ownsRow.lt hoMwb wa.heap.size rfl).2
            have s1 := hbwa.size
            have s2 := hbwb.size
            have s3 := hbwc.size
            rcases hk with hk | hk
            · have := World.ownsRow.lt o0wc k hk.symm; omega
            · have := World.ownsRow.lt o1wc k hk.symm; omega
          have hAB := AtBox.of (rg := p.rights) (sd := p.side) hzz ((OwnInts.mono hoMwb hbwa.size).upx hbwc) (OwnInts.mono o0wc (Nat.le_trans hbwa.size hbwb.size)) (OwnInts.mono o1wc (Nat.le_trans hbwa.size hbwb.size)) (below_step (below_step hbwa hbwb) hbwc) (Nat.le_refl _) hne
          refine hK.out _ _ (hSwc.row _ hAB.low (bx_lt hSwD.hq) HX.out) (fun _ => ?_)
          clear hK K
          refine wpAnyH_done (by kernel_rfl) ?_ _
          go_wp2_with fail
          go_meet
          case rel => exact ⟨_, _, _, _, _, _, rfl, hAB⟩
        refine AC (i := 6) (fun K hK => ?_) AllReadyH.nil
        refine step_call_h rfl 32 _ _ #[.agg #[.slice b0 p.h0.length c0, .slice b1 p.h1.length c1]] rfl rfl (enters_of Try.func32 (by kernel_rfl) rfl) ((HC.out wa hbwa).mono ?_)
        rintro e wb ⟨g0, g1, d0, d1, rfl, o0wb, o1wb, hbwb⟩
        have hSwb := hSwa.up hbwb
        refine ⟨_, rfl, hK.out _ _ hSwb (fun _ => ?_)⟩
        clear hK K
        (try simp only [pS])
        refine wpAnyH_ready (rs := [3]) (by kernel_rfl) (by simp) ?_
        refine AC (i := 3) (fun K hK => ?_) AllReadyH.nil
        refine step_mk rfl _ _ rfl bc rfl rfl (by omega) ?_
        intro wc hoMwc hbwc
        have hSwc := hSwb.up hbwc
        refine hK.out _ _ hSwc (fun _ => ?_)
        clear hK K
        (try simp only [pS])
        refine TC 11 ?_
        (try simp only [pS])
        have hzz := hp_up (hp_up hzwa hbwb) hbwc
        refine wpAnyH_ready (rs := [13]) (by kernel_rfl) (by simp) ?_
        refine AC (i := 13) (fun K hK => ?_) AllReadyH.nil
        refine step_store_rw rfl 27 _ _ rfl _ _ rfl rfl 27 _ hzz info_pos rfl (by simp [Value.oneCell']) ?_
        have hne : ∀ k, (some k = (Value.slice g0 p.h0.length d0).ownBlock ∨ some k = (Value.slice g1 p.h1.length d1).ownBlock) → k ≠ wb.heap.size := by
          intro k hk e
          have l1 := (World.ownsRow.lt hoMwc wb.heap.size rfl).2
          have s1 := hbwa.size
          have s2 := hbwb.size
          have s3 := hbwc.size
          rcases hk with hk | hk
          · have := World.ownsRow.lt o0wb k hk.symm; omega
          · have := World.ownsRow.lt o1wb k hk.symm; omega
        have hAB := AtBox.of (rg := p.rights) (sd := p.side) hzz (OwnInts.mono hoMwc (Nat.le_trans hbwa.size hbwb.size)) ((OwnInts.mono o0wb hbwa.size).upx hbwc) ((OwnInts.mono o1wb hbwa.size).upx hbwc) (below_step (below_step hbwa hbwb) hbwc) (Nat.le_refl _) hne
        refine hK.out _ _ (hSwc.row _ hAB.low (bx_lt hSwD.hq) HX.out) (fun _ => ?_)
        clear hK K
        refine wpAnyH_done (by kernel_rfl) ?_ _
        go_wp2_with fail
        go_meet
        case rel => exact ⟨_, _, _, _, _, _, rfl, hAB⟩
      case rest =>
        obtain ⟨B, M, g0, g1, d0, d1, rfl, hAB⟩ := hcut
        have hQc := hp_up hC1.hq hAB.bel
        have hRc := hp_up hRd hAB.bel
        have HBc := Lib.hid (show Below w.heap.size w wc from hC1.b.trans (hAB.bel.mono hC1.b.size))
        have hNc : N ≤ wc.heap.size := Nat.le_trans hNd hAB.bel.size
        have HFA := Lib.hid (filling_any l b c N wc hl13 (by have := HSUM.out; omega) hw hNc (HI.out.up hNd hAB.bel))
        have k1 : wc.cell? ⟨x + 1, 0, none⟩ = some (.slice b l.length c) := bx_cell hQc 0 rfl
        have lq := bx_lt hQc
        have hMh := (World.ownsRow.lt hAB.own M rfl).2
        have hBM : B ≠ M := fun e => own_ne hAB.own hAB.box (by decide) (by rw [e]; rfl)
        have lB := bx_lt hAB.box
        have lR := bx_lt hRc
        have hDB := hAB.low
        have hDM := (World.ownsRow.lt hAB.own M rfl).1
        have hxD : x + 2 < w1.drew.heap.size := bx_lt hRd
        have HAB := Lib.hid hAB
        have HRc := Lib.hid hRc
        clear hC1 hRd hQc hRc hAB HC hN1
        generalize hhh : wc.heap.size = h at *
        have HHH := Lib.hid hhh
        clear hhh
        go_upto_region 8 with (go_at_call 37; refine HFA.out.mono ?_; rintro e w5 ⟨rfl, hF5, hb5⟩)
        generalize hDD : w1.drew.heap.size = D at *
        have HDD := Lib.hid hDD
        clear hDD
        have hB5 : w5.heap[B]? = some (.cells #[.slice (some ⟨M, 0, none⟩) bc bc, .slice g0 p.h0.length d0, .slice g1 p.h1.length d1, .int .i64 p.rights, .int .i64 p.side] 27 (0, 0)) := (hb5.block B lB).trans HAB.out.box
        have q5 : w5.cell? ⟨B, 0, none⟩ = some (.slice (some ⟨M, 0, none⟩) bc bc) := bx_cell hB5 0 rfl
        have hl5 : B < w5.heap.size := bx_lt hB5
        have HF5 := Lib.hid hF5
        have HO5 := Lib.hid (show OwnInts D w5 (.slice (some ⟨M, 0, none⟩) bc bc) (zs ([] ++ List.replicate (bc - 0) 0)) from by
          have e : zs ([] ++ List.replicate (bc - 0) 0) = List.replicate bc 0 := by simp [zs]
          rw [e]
          have h1 := HAB.out.own
          rw [HDD.out] at h1
          exact h1.alters (Alters.of_below (S := fun _ => False) (hb5.mono (by rw [HHH.out]; exact Nat.le_refl _))) (fun _ h => h.elim))
        have HA5 := Lib.hid (show Alters (fun z => z = M ∨ h ≤ z) wc w5 from ⟨hb5.os, hb5.tape, hb5.output, hb5.size, fun z hz hn => hb5.block z (by omega)⟩)
        have hs5 : h ≤ w5.heap.size := by have := hb5.size; have := HHH.out; omega
        clear hF5 hb5 hB5 HFA k1 lq
        unfold waysV putV
        go_wp2
        clear q5 hl5
        go_loopw [2, 54] (fun v ix wr => ∃ (k i : Nat) (lk acc : List Nat), k ≤ bc ∧ ix = .int .i64 k ∧ v = .int .i64 i ∧ Hid (acc.length = k) ∧ Hid (acc ++ atS lk (bc - k) i = atS l bc j) ∧ Hid (lk.sum = bc - k) ∧ Hid (lk.length = l.length) ∧ Hid (i < ways lk) ∧ Hid (ways lk ≤ 1099511627776) ∧ Hid (FB wr h (pad lk)) ∧ Hid (OwnInts D wr (.slice (some ⟨M, 0, none⟩) bc bc) (zs (acc ++ List.replicate (bc - k) 0))) ∧ Hid (Alters (fun z => z = M ∨ h ≤ z) wc wr)) (fun _ ix _ => bc - (intOf ix).toNat)
        case atStart => exact ⟨0, j, l, [], Nat.zero_le _, rfl, rfl, Lib.hid rfl, Lib.hid rfl, HSUM, Lib.hid rfl, Lib.hid hj, Lib.hid hw, HF5, HO5, HA5⟩
        case round =>
          clear HF5 HO5 HA5
          obtain ⟨k, i, lk, acc, hk, rfl, rfl, HAC, HAT, HSK, HLK, HIW, HWK, HFB, HOW, HAL⟩ := hrel
          by_cases hlt : k < bc
          · obtain ⟨n, hn⟩ : ∃ n, bc - k = n + 1 := ⟨bc - k - 1, by omega⟩
            have hAT := HAT.out
            have hSK := HSK.out
            have hOW := HOW.out
            rw [hn] at hAT hSK hOW
            have hn2 : bc - (k + 1) = n := by omega
            have hiw := HIW.out
            rw [← below_all hSK] at hiw
            obtain ⟨_, hc1, hc2, hc3⟩ := first_lt lk.length 0 (Nat.zero_le _) (by rw [Nat.zero_add]; exact hiw)
            simp only [atS] at hAT
            generalize firstS lk i lk.length 0 = c9 at *
            have hlk13 : lk.length ≤ 13 := by have := HLK.out; omega
            have hc13 : c9 < 13 := by omega
            have hps : (pad lk).sum = n + 1 := by rw [sum_pad hlk13]; exact hSK
            have hpw : ways (pad lk) ≤ 1099511627776 := by rw [ways_pad hlk13]; exact HWK.out
            have ht9 : below lk (c9 + 1) = below lk c9 + term lk c9 := rfl
            have hpos : 0 < lk.getD c9 0 := by
              rcases Nat.eq_zero_or_pos (lk.getD c9 0) with h0 | h0
              · have : term lk c9 = 0 := by unfold term; rw [if_pos h0]
                omega
              · exact h0
            have hppos : 0 < (pad lk).getD c9 0 := by rw [pad_at, if_pos hc13]; exact hpos
            have HWY := Lib.hid (fun y W (hy : y < 13) (hF : FB W h (pad lk)) => waysf_any (pad lk) h y n W hy hF hps (by omega) hpw)
            have HPUT := Lib.hid (fun W (hF : FB W h (pad lk)) => putf_any (pad lk) h c9 n W hc13 hF hps (by omega) hpw hppos)
            have HTP := Lib.hid (fun y => term_pad hlk13 y)
            have HDP := Lib.hid (dec_pad (l := lk) c9)
            have HMONO := Lib.hid (fun (y z : Nat) (hyz : y ≤ z) => below_le lk hyz)
            have HSTEP := Lib.hid (fun y => show below lk (y + 1) = below lk y + term lk y from rfl)
            have hbig : i ≤ 1099511627776 := by have := HIW.out; have := HWK.out; omega
            have HC2 := Lib.hid hc2
            have HC3 := Lib.hid hc3
            have HNX := Lib.hid (And.intro hAT (And.intro (sum_dec hpos) (And.intro hOW (And.intro (term_of hpos) (And.intro hSK (show c9 < lk.length by omega))))))
            have hsr : h ≤ wr.heap.size := by have := HAL.out.size; have := HHH.out; omega
            have hBr : wr.heap[B]? = _ := (HAL.out.block B (by have := HHH.out; omega) (by omega)).trans HAB.out.box
            clear hAT hSK hOW hn hiw hc1 hc2 hc3 ht9 hpos hppos hps hpw HOW HAT HSK
            go_upto_region 12 with (fail)
            go_loopw [2, 14] (fun v yv wi => ∃ (y i2 z : Nat), y ≤ c9 ∧ yv = .int .i64 y ∧ v = .int .i64 i2 ∧ Hid (i2 + below lk y = i) ∧ i2 ≤ 1099511627776 ∧ wi = wr.drewN z) (fun _ yv _ => c9 - (intOf yv).toNat)
            case atStart => exact ⟨0, i, 0, Nat.zero_le _, rfl, rfl, Lib.hid rfl, hbig, rfl⟩
            case round =>
              obtain ⟨y, i2, z, hy, rfl, rfl, HI2, hi2, rfl⟩ := hrel
              have hy13 : y < 13 := by omega
              have HCX := Lib.hid (fun z9 => HWY.out y (wr.drewN z9) hy13 (HFB.out.up (below_drewN_ (Below.refl _ _) z9)))
              simp only [HTP.out y] at HCX
              clear hy13
              have h9 := HSTEP.out y
              by_cases hyx : y < c9
              · have hb9 : term lk y ≤ i2 := by
                  have h1 := HMONO.out (y + 1) c9 (by omega)
                  have := HI2.out
                  have := HC2.out
                  omega
                have HIN := Lib.hid (show (i2 - term lk y) + below lk (y + 1) = i by have := HI2.out; omega)
                clear h9
                generalize term lk y = T at *
                have t3 : decide ((T : Int) ≤ (i2 : Int)) = true := by simp; omega
                have e3 : (i2 : Int) - (T : Int) = ((i2 - T : Nat) : Int) := by omega
                have HE3 := Lib.hid e3
                clear e3
                clear HI2
                go_wp2_with (go_at_call 48; refine (HCX.out _).mono ?_; rintro e w' ⟨rfl, z2, rfl⟩)
                go_roundw
                case rel => exact ⟨y + 1, i2 - T, _, by omega, by go_num, by rw [← HE3.out], HIN, by omega, rfl⟩
                case measure => simp [intOf]; omega
              · obtain rfl : y = c9 := by omega
                have hb9 : i2 < term lk y := by
                  have := HI2.out
                  have := HC3.out
                  omega
                have HI9 := Lib.hid (show i - below lk y = i2 by have := HI2.out; omega)
                clear h9 HI2
                obtain ⟨hn1, hn2', hn3, hn4, hSK, hylt⟩ := HNX.out
                have HSK2 := Lib.hid (And.intro hSK hylt)
                clear hSK hylt
                have hiT : i2 < ways (dec lk y) := by rw [← hn4]; exact hb9
                generalize hTT : term lk y = T at *
                have t3 : decide ((T : Int) ≤ (i2 : Int)) = false := by simp; omega
                clear HNX
                go_upto_region 15 with (go_at_call 48; refine (HCX.out _).mono ?_; rintro e w' ⟨rfl, z2, rfl⟩)
                have hFz := HFB.out.up (below_drewN_ (Below.refl wr.heap.size wr) (z + z2))
                have hAz := HAL.out.trans (Alters.of_below (S := fun z => z = M ∨ h ≤ z) (below_drewN_ (Below.refl wr.heap.size wr) (z + z2)))
                have hOz : OwnInts D (wr.drewN (z + z2)) (.slice (some ⟨M, 0, none⟩) bc bc) (zs (acc ++ List.replicate (n + 1) 0)) := hn3
                have hBz : (wr.drewN (z + z2)).heap[B]? = _ := hBr
                have hsz : h ≤ (wr.drewN (z + z2)).heap.size := hsr
                have HPT := Lib.hid (HPUT.out _ hFz)
                rw [HDP.out] at HPT
                clear HCX HFB HAL hn3 hBr hsr
                generalize wr.drewN (z + z2) = wz at *
                go_upto_region 16 with (go_at_call 49; refine HPT.out.mono ?_; rintro e w6 ⟨⟨vv, rfl⟩, hF6, ha6⟩)
                have hB6 := (ha6.block B (bx_lt hBz) (by omega)).trans hBz
                have hO6 := hOz.alters ha6 (fun q hq e => by
                  have e2 : q = M := by simpa [Value.ownBlock] using e
                  omega)
                have hA6 : Alters (fun z => z = M ∨ h ≤ z) wc w6 := hAz.trans (ha6.mono (fun q _ hq => .inr hq.1))
                have hlen6 : (zs (acc ++ List.replicate (n + 1) 0)).length = bc := by rw [zs_len, List.length_append, List.length_replicate, HAC.out]; omega
                obtain ⟨cM, fM⟩ := hO6.cellAt (j := k) (by rw [hlen6]; exact hlt)
                have hset : (zs (acc ++ List.replicate (n + 1) 0)).set k (y : Int) = zs ((acc ++ [y]) ++ List.replicate n 0) := by
                  have h1 := HAC.out
                  rw [List.append_assoc, ← h1]
                  simp [zs, List.map_append, List.replicate_succ]
                have hO7 := hO6.set k (y : Int)
                rw [hset] at hO7
                have hA7 := hA6.trans ((alters_cell w6 M k (.int .i64 (y : Int))).mono (T := fun z => z = M ∨ h ≤ z) (fun q _ hq => .inl hq))
                have hF7 : FB (w6.setCell ⟨M, k, none⟩ (.int .i64 (y : Int))) h (pad (dec lk y)) := ⟨(hp_far _ _ _ _ _ (by omega)).trans hF6.v, (hp_far _ _ _ _ _ (by omega)).trans hF6.l, (hp_far _ _ _ _ _ (by omega)).trans hF6.c, (hp_far _ _ _ _ _ (by omega)).trans hF6.a⟩
                have HA7 := Lib.hid hA7
                have HF7 := Lib.hid hF7
                have HO7 := Lib.hid hO7
                have q6 : w6.cell? ⟨B, 0, none⟩ = some (.slice (some ⟨M, 0, none⟩) bc bc) := bx_cell hB6 0 rfl
                have lB6 := bx_lt hB6
                have lM6 : M < w6.heap.size := World.block_lt_of_cell? _ _ cM
                generalize (zs (acc ++ List.replicate (n + 1) 0))[k]?.getD 0 = vM at cM
                rw [HI9.out] at hn1
                have HT9 := Lib.hid (show (acc ++ [y]) ++ atS (dec lk y) n i2 = atS l bc j by rw [List.append_assoc]; exact hn1)
                have HS9 := Lib.hid (show (dec lk y).sum = bc - (k + 1) by have := HSK2.out.1; omega)
                have HI10 := Lib.hid hiT
                have HW10 := Lib.hid (show ways (dec lk y) ≤ 1099511627776 by
                  rw [← hn4, ← hTT]
                  have h1 := HSTEP.out y
                  have h2 := HMONO.out (y + 1) lk.length HSK2.out.2
                  have h3 := below_all (l := lk) (n := n) HSK2.out.1
                  have := HWK.out
                  omega)
                clear hF6 ha6 hB6 hO6 hA6 hset hO7 hA7 hF7 hFz hAz hOz hBz HPT hn1 hn2' hn4 hiT hb9 hTT HPUT HWY hlen6 t3
                have HN2 := Lib.hid hn2
                clear hn2
                go_wp2
                go_roundw
                case rel => exact ⟨k + 1, i2, dec lk y, acc ++ [y], by omega, by go_num, rfl, Lib.hid (by rw [List.length_append, HAC.out]; rfl), by rw [HN2.out]; exact HT9, HS9, Lib.hid (by rw [dec_length]; exact HLK.out), HI10, HW10, HF7, by rw [HN2.out]; exact HO7, HA7⟩
                case measure => simp [intOf]; omega
          · obtain ⟨e0, rfl⟩ : bc - k = 0 ∧ k = bc := ⟨by omega, by omega⟩
            have hAT := HAT.out
            have hOW := HOW.out
            rw [e0] at hAT hOW
            have eacc : acc = atS l k j := by rw [← hAT]; simp [atS]
            have hOF : OwnInts D wr (.slice (some ⟨M, 0, none⟩) k k) (zs (atS l k j)) := by
              rw [← eacc]; simpa using hOW
            have hBr : wr.heap[B]? = _ := (HAL.out.block B (by have := HHH.out; omega) (by omega)).trans HAB.out.box
            have hRr : wr.heap[x + 2]? = _ := (HAL.out.block (x + 2) (by have := HHH.out; omega) (by omega)).trans HRc.out
            have hla : (atS l k j).length = k := by rw [← eacc]; exact HAC.out
            have hown0 := HAB.out.own0.alters HAL.out (fun q hq e => by
              rcases hq with rfl | hq
              · exact HAB.out.ne q (.inl e) rfl
              · have h1 := World.ownsRow.lt HAB.out.own0 q e.symm
                have := HHH.out
                omega)
            have hown1 := HAB.out.own1.alters HAL.out (fun q hq e => by
              rcases hq with rfl | hq
              · exact HAB.out.ne q (.inr e) rfl
              · have h1 := World.ownsRow.lt HAB.out.own1 q e.symm
                have := HHH.out
                omega)
            have hBw : Below w.heap.size w wr := HBc.out.trans (HAL.out.below (by rw [HHH.out]; have := HX.out; omega) (fun q hq => by have := HX.out; rcases hq with rfl | hq <;> omega))
            rw [HDD.out] at hown0 hown1
            have hRx := setRow_heap wr (x + 2) _ #[.slice (some ⟨M, 0, none⟩) k k, .slice g0 p.h0.length d0, .slice g1 p.h1.length d1, .int .i64 p.rights, .int .i64 p.side] _ _ hRr
            have haR := setRow_alt wr (x + 2) #[.slice (some ⟨M, 0, none⟩) k k, .slice g0 p.h0.length d0, .slice g1 p.h1.length d1, .int .i64 p.rights, .int .i64 p.side]
            have hk3 : ∀ {v : Value} {l : List Int}, OwnInts D wr v l → OwnInts D (wr.setRow (x + 2) #[.slice (some ⟨M, 0, none⟩) k k, .slice g0 p.h0.length d0, .slice g1 p.h1.length d1, .int .i64 p.rights, .int .i64 p.side]) v l := fun hv => hv.alters haR (fun q hq e => by
              have e2 : q = x + 2 := hq
              have := World.ownsRow.lt hv q e.symm
              omega)
            have HRES := Lib.hid (show PosIn (wr.setRow (x + 2) #[.slice (some ⟨M, 0, none⟩) k k, .slice g0 p.h0.length d0, .slice g1 p.h1.length d1, .int .i64 p.rights, .int .i64 p.side]).heap.size (wr.setRow (x + 2) #[.slice (some ⟨M, 0, none⟩) k k, .slice g0 p.h0.length d0, .slice g1 p.h1.length d1, .int .i64 p.rights, .int .i64 p.side]) (some ⟨M, 0, none⟩) g0 g1 ⟨zs (atS l k j), p.h0, p.h1, p.rights, p.side⟩ ∧ Below w.heap.size w (wr.setRow (x + 2) #[.slice (some ⟨M, 0, none⟩) k k, .slice g0 p.h0.length d0, .slice g1 p.h1.length d1, .int .i64 p.rights, .int .i64 p.side]) from
              ⟨⟨(hk3 hOF).ints', (hk3 hown0).ints', (hk3 hown1).ints'⟩, hBw.trans (haR.below hBw.size (fun q hq => by have e2 : q = x + 2 := hq; have := HX.out; omega))⟩)
            have HV2 := Lib.hid HV.out.symm
            have HLA := Lib.hid hla
            have HB9 := Lib.hid hBr
            have HR9 := Lib.hid hRr
            have HRX := Lib.hid hRx
            clear hAT hOW eacc hOF hBr hRr hla hown0 hown1 hBw hRx haR hk3 HAC HAT HSK HLK HIW HWK HFB HOW HAL e0
            go_wp2_with (first | (refine wpList_load_row rfl 27 (.tmp 10) rfl B rfl 27 _ (0, 0) _ HB9.out Try.underlying27 rfl info_pos ?_) | (refine wpList_store_row rfl 27 (.tmp 6) (.tmp 78) rfl (x + 2) #[.slice (some ⟨M, 0, none⟩) k k, .slice g0 p.h0.length d0, .slice g1 p.h1.length d1, .int .i64 p.rights, .int .i64 p.side] rfl rfl 27 _ HR9.out info_pos rfl (by simp [Value.oneCell']) ?_))
            generalize wr.setRow (x + 2) #[.slice (some ⟨M, 0, none⟩) k k, .slice g0 p.h0.length d0, .slice g1 p.h1.length d1, .int .i64 p.rights, .int .i64 p.side] = w7 at *
            (try simp only [Exit.inBlock, Exit.then])
            refine bodyPost_ret (results_ct rfl _ _ _ ⟨x + 2, 0, none⟩ _ rfl (run_loadVar_row w7 (x + 2) 27 27 _ (0, 0) _ HRX.out Try.underlying27 rfl info_pos)) rfl ?_
            exact ⟨some ⟨M, 0, none⟩, g0, g1, k, d0, d1, by rw [HV2.out]; unfold PosV; dsimp only; rw [zs_len, HLA.out]; rfl, by rw [HV2.out]; exact HRES.out⟩
    · rw [if_neg hi] at HV
      have HF := Lib.hid HV.out.symm
      by_cases hi0 : i < 0
      · have t1 : decide (i < 0) = true := by simpa using hi0
        clear hi hi0
        go_wp2_with (first | (refine wpList_load_row rfl 35 (.tmp 3) rfl x rfl 35 _ (0, 0) _ hG Try.underlying35 rfl info_game ?_) | (refine wpList_load_row rfl 39 (.tmp 4) rfl (x + 1) rfl 39 _ (0, 0) _ hQ Try.underlying39 rfl info_mat ?_) | (go_at_call 14; refine HS.out.mono ?_; rintro e w1 ⟨rfl, hb1⟩; have hR1 := hp_up hR hb1) | (refine wpList_store_row rfl 27 (.tmp 6) (.tmp 32) rfl (x + 2) #[.slice none 0 0, .slice none 0 0, .slice none 0 0, .int .i64 0, .int .i64 0] rfl rfl 27 _ hR1 info_pos rfl (by simp [Value.oneCell']) ?_))
        have hZ := setRow_heap w1 (x + 2) _ #[.slice none 0 0, .slice none 0 0, .slice none 0 0, .int .i64 0, .int .i64 0] _ _ hR1
        have hbz : Below x w (w1.setRow (x + 2) #[.slice none 0 0, .slice none 0 0, .slice none 0 0, .int .i64 0, .int .i64 0]) := (hb0.trans (hb1.mono (by have := HS0.out; omega))).trans ((setRow_alt w1 (x + 2) _).below (by have := bx_lt hR1; omega) (fun z hz => by have : z = x + 2 := hz; omega))
        generalize w1.setRow (x + 2) #[.slice none 0 0, .slice none 0 0, .slice none 0 0, .int .i64 0, .int .i64 0] = w2 at *
        (try simp only [Exit.inBlock, Exit.then])
        refine bodyPost_ret (zero_end rfl _ (x + 2) _ rfl hZ) rfl ?_
        exact ⟨none, none, none, 0, 0, 0, by rw [HF.out]; rfl, by rw [HF.out]; exact zero_in _ _, by have e := HX.out; rw [← e]; exact hbz⟩
      · have t1 : decide (i < 0) = false := by simpa using hi0
        have hge : ((ways (nats p.cells) : Nat) : Int) ≤ i := by omega
        have t2 : decide (((ways (nats p.cells) : Nat) : Int) ≤ i) = true := by simpa using hge
        clear hi hi0
        go_wp2_with (first | (refine wpList_load_row rfl 35 (.tmp 3) rfl x rfl 35 _ (0, 0) _ hG Try.underlying35 rfl info_game ?_) | (refine wpList_load_row rfl 39 (.tmp 4) rfl (x + 1) rfl 39 _ (0, 0) _ hQ Try.underlying39 rfl info_mat ?_) | (go_at_call 14; refine HS.out.mono ?_; rintro e w1 ⟨rfl, hb1⟩; have hR1 := hp_up hR hb1) | (refine wpList_store_row rfl 27 (.tmp 6) (.tmp 32) rfl (x + 2) #[.slice none 0 0, .slice none 0 0, .slice none 0 0, .int .i64 0, .int .i64 0] rfl rfl 27 _ hR1 info_pos rfl (by simp [Value.oneCell']) ?_))
        have hZ := setRow_heap w1 (x + 2) _ #[.slice none 0 0, .slice none 0 0, .slice none 0 0, .int .i64 0, .int .i64 0] _ _ hR1
        have hbz : Below x w (w1.setRow (x + 2) #[.slice none 0 0, .slice none 0 0, .slice none 0 0, .int .i64 0, .int .i64 0]) := (hb0.trans (hb1.mono (by have := HS0.out; omega))).trans ((setRow_alt w1 (x + 2) _).below (by have := bx_lt hR1; omega) (fun z hz => by have : z = x + 2 := hz; omega))
        generalize w1.setRow (x + 2) #[.slice none 0 0, .slice none 0 0, .slice none 0 0, .int .i64 0, .int .i64 0] = w2 at *
        (try simp only [Exit.inBlock, Exit.then])
        refine bodyPost_ret (zero_end rfl _ (x + 2) _ rfl hZ) rfl ?_
        exact ⟨none, none, none, 0, 0, 0, by rw [HF.out]; rfl, by rw [HF.out]; exact zero_in _ _, by have e := HX.out; rw [← e]; exact hbz⟩
  · rw [if_neg he] at HV
    have HF := Lib.hid HV.out.symm
    have HE := Lib.hid (show (sizeV bc r ks p).2 ≠ 0 from he)
    obtain ⟨ev, hev⟩ : ∃ ev, (sizeV bc r ks p).2 = ev := ⟨_, rfl⟩
    rw [hev] at HS HF HE
    have t1 : (((ev : Nat) : Int) != 0) = true := by have := HE.out; simp; omega
    have t2 : decide (((ev : Nat) : Int) = 0) = false := by have := HE.out; simp; omega
    clear he hev
    go_wp2_with (first | (refine wpList_load_row rfl 35 (.tmp 3) rfl x rfl 35 _ (0, 0) _ hG Try.underlying35 rfl info_game ?_) | (refine wpList_load_row rfl 39 (.tmp 4) rfl (x + 1) rfl 39 _ (0, 0) _ hQ Try.underlying39 rfl info_mat ?_) | (go_at_call 14; refine HS.out.mono ?_; rintro e w1 ⟨rfl, hb1⟩; have hR1 := hp_up hR hb1) | (refine wpList_store_row rfl 27 (.tmp 6) (.tmp 23) rfl (x + 2) #[.slice none 0 0, .slice none 0 0, .slice none 0 0, .int .i64 0, .int .i64 0] rfl rfl 27 _ hR1 info_pos rfl (by simp [Value.oneCell']) ?_))
    have hZ := setRow_heap w1 (x + 2) _ #[.slice none 0 0, .slice none 0 0, .slice none 0 0, .int .i64 0, .int .i64 0] _ _ hR1
    have hbz : Below x w (w1.setRow (x + 2) #[.slice none 0 0, .slice none 0 0, .slice none 0 0, .int .i64 0, .int .i64 0]) := (hb0.trans (hb1.mono (by have := HS0.out; omega))).trans ((setRow_alt w1 (x + 2) _).below (by have := bx_lt hR1; omega) (fun z hz => by have : z = x + 2 := hz; omega))
    generalize w1.setRow (x + 2) #[.slice none 0 0, .slice none 0 0, .slice none 0 0, .int .i64 0, .int .i64 0] = w2 at *
    (try simp only [Exit.inBlock, Exit.then])
    refine bodyPost_ret (zero_end rfl _ (x + 2) _ rfl hZ) rfl ?_
    exact ⟨none, none, none, 0, 0, 0, by rw [HF.out]; rfl, by rw [HF.out]; exact zero_in _ _, by have e := HX.out; rw [← e]; exact hbz⟩
end Go.Proofs.Ytepbmgbomdekaaa
