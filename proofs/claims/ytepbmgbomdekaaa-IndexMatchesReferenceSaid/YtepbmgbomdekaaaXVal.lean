/-
  Valid of the program's index.
-/
import Derived.Test.YtepbmgbomdekaaaXOf
import Derived.Test.YtepbmgbomdekaaaXArr
import Derived.Test.YtepbmgbomdekaaaDValid
import Derived.Test.YtepbmgbomdekaaaXGm
namespace Go.Proofs.Ytepbmgbomdekaaa
open Go Go.RowKit

/-- Whether a material fits a game. -/
def matB (bc r : Nat) (ks : List Bool) (p : PosS) : Bool := decide (p.cells.length = 2 * ks.length + 1) && (fillF p.cells bc && (handB ks p.h0 && (handB ks p.h1 && (upToB p.rights (2 ^ r - 1) && upToB p.side 1))))
theorem keeps_mono {n m : Nat} {W : World} {a : Option Addr} {ks : List Bool} (h : Keeps n W a ks) (hm : n ≤ m) : Keeps m W a ks := by
  rcases h with h | ⟨b, off, e, hb, hc⟩
  · exact .inl h
  · exact .inr ⟨b, off, e, by omega, hc⟩
theorem posB_zero (bc r : Nat) (ks : List Bool) (p : PosS) : posB bc r ks { p with cells := List.replicate bc 0 } = (handB ks p.h0 && (handB ks p.h1 && (upToB p.rights (2 ^ r - 1) && upToB p.side 1))) := by
  unfold posB
  have h1 : allIn (List.replicate bc 0) (2 * (ks.length : Int)) = true := by
    unfold allIn
    rw [List.all_eq_true]
    intro x hx
    rw [List.eq_of_mem_replicate hx]
    unfold upToB
    simp
    omega
  simp only [List.length_replicate, decide_true, Bool.true_and, h1]

set_option maxRecDepth 100000 in
set_option maxHeartbeats 4000000 in
theorem mat_any (bc r : Nat) (ks : List Bool) (vn vt vm vc vb ve : Value) (p : PosS) (ak b b0 b1 : Option Addr) (ck c c0 c1 N : Nat) (w : World) (hbc : bc ≤ 64) (hr : r ≤ 4) (hks : ks.length ≤ 6) (hp : PosFit p) (hN : N ≤ w.heap.size) (hP : PosIn N w b b0 b1 p) (hK : Keeps N w ak ks) :
    Calls Try.prog 16 #[.agg #[.int .i64 (bc : Int), vn, vt, .slice ak ks.length ck, .int .i64 (r : Int), vm, vc, vb, ve], PosV b b0 b1 c c0 c1 p] w fun e w' => e = .returned (.bool (matB bc r ks p)) ∧ Below w.heap.size w w' := by
  obtain ⟨nk, hnk⟩ : ∃ nk, nk = ks.length := ⟨_, rfl⟩
  obtain ⟨pc, h0, h1, rg, sd⟩ := p
  obtain ⟨hp1, hp2, hp3⟩ := hp
  dsimp only at hp1 hp2 hp3
  obtain ⟨R, hR⟩ : ∃ R, matB bc r ks ⟨pc, h0, h1, rg, sd⟩ = R := ⟨_, rfl⟩
  rw [hR]
  unfold matB at hR
  dsimp only at hR
  have HR := Lib.hid hR
  have HZ := Lib.hid (posB_zero bc r ks ⟨pc, h0, h1, rg, sd⟩)
  dsimp only at HZ
  clear hR
  unfold PosV
  dsimp only
  rw [← hnk] at HR hks ⊢
  have HNK := Lib.hid hnk
  clear hnk
  have t1 : decide ((64 : Int) < (bc : Int)) = false := by simp; omega
  have t2 : decide ((6 : Int) < (nk : Int)) = false := by simp; omega
  go_enter Try.func16, Try.ntmps16
  go_upto_region 1 with (fail)
  obtain ⟨hb0, hG, hQ, hS0⟩ := two_boxes w #[.int .i64 (bc : Int), vn, vt, .slice ak nk ck, .int .i64 (r : Int), vm, vc, vb, ve] #[.slice b pc.length c, .slice b0 h0.length c0, .slice b1 h1.length c1, .int .i64 rg, .int .i64 sd] 35 39
  generalize (w.alloc (.cells #[.int .i64 (bc : Int), vn, vt, .slice ak nk ck, .int .i64 (r : Int), vm, vc, vb, ve] 35)).alloc (.cells #[.slice b pc.length c, .slice b0 h0.length c0, .slice b1 h1.length c1, .int .i64 rg, .int .i64 sd] 39) = w0 at *
  have hC0 := GM.of hb0 hG hQ
  have hP0 := hP.up hN hb0
  have hK0 := hK.below (hb0.mono hN)
  have hN0 : N ≤ w0.heap.size := Nat.le_trans hN hb0.size
  have g0 := hC0.g0
  have g3 := hC0.g3
  have HP0 := Lib.hid hP0
  have HK0 := Lib.hid hK0
  clear hG hQ hS0 hP hK hP0 hK0 hN
  go_upto_region 3 with (fail)
  clear g0 g3
  have hCd := hC0.drew
  have hd : Below w0.heap.size w0 w0.drew := (Below.refl _ _).drew
  have HC := Lib.hid (contents_any (.int .i64 (bc : Int)) vn vt (.int .i64 (r : Int)) vm vc vb ve ak nk ck (2 * nk + 1) w0.drew (by omega) rfl)
  refine wp_region_held_drew (S := GM w w.heap.size (w.heap.size + 1) 39 (.int .i64 (bc : Int)) vn vt (.slice ak nk ck) (.int .i64 (r : Int)) vm vc vb ve (.slice b pc.length c) (.slice b0 h0.length c0) (.slice b1 h1.length c1) (.int .i64 rg) (.int .i64 sd)) (by kernel_rfl) hCd (fun hHeld => ?_)
  have hNd : N ≤ w0.drew.heap.size := hN0
  have HPd := Lib.hid (HP0.out.up hN0 hd)
  have HKd := Lib.hid (HK0.out.below (hd.mono hN0))
  clear hC0 HP0 HK0 hN0 hd hb0
  generalize w0.drew = wD at *
  clear t1 t2
  refine TC 0 ?_
  (try simp only [pS])
  refine TC 1 ?_
  (try simp only [pS])
  refine TC 2 ?_
  (try simp only [pS])
  refine TX 3 (YL rfl 35 _ rfl w.heap.size 0 rfl _ [.int .i64 (bc : Int), vn, vt, .slice ak nk ck, .int .i64 (r : Int), vm, vc, vb, ve] _ _ (fun _ h => h.hg) rfl Try.underlying35 rfl info_game) ?_
  (try simp only [pS])
  refine wpAnyH_ready (rs := [4]) (by kernel_rfl) (by simp) ?_
  refine AC (i := 4) (fun K hK => ?_) AllReadyH.nil
  refine step_call_h rfl 31 _ _ #[.agg #[.int .i64 (bc : Int), vn, vt, .slice ak nk ck, .int .i64 (r : Int), vm, vc, vb, ve]] rfl rfl (enters_of Try.func31 (by kernel_rfl) rfl) (HC.out.mono ?_)
  rintro e w2 ⟨rfl, hb2⟩
  have hS2 := hHeld.up hb2
  refine ⟨_, rfl, hK.out _ _ hS2 (fun _ => ?_)⟩
  clear hK K hHeld hCd
  have hN2 := Nat.le_trans hNd hb2.size
  have HP2 := Lib.hid (HPd.out.up hNd hb2)
  have HK2 := Lib.hid (HKd.out.below (hb2.mono hNd))
  clear hb2 HPd HKd hNd
  (try simp only [pS])
  by_cases hlen : pc.length = 2 * nk + 1
  · have t1 : ((pc.length : Int) == ((2 * nk + 1 : Nat) : Int)) = true := by simp; omega
    have t1' : ((pc.length : Int) == 2 * (nk : Int) + 1) = true := by simp; omega
    have HLEN := Lib.hid hlen
    clear hlen
    refine TC 5 ?_
    (try simp only [pS])
    refine TC 6 ?_
    (try simp only [pS])
    have HF := Lib.hid (fill_any pc b c N (bc : Int) w2 hp1 (by omega) HP2.out.cells)
    refine TC 7 ?_
    (try simp only [pS])
    refine TC 8 ?_
    (try simp only [pS])
    refine TC 9 ?_
    (try simp only [pS])
    refine TC 10 ?_
    (try simp only [pS])
    refine TC 11 ?_
    (try simp only [pS])
    refine wpAnyH_ready (rs := [12]) (by kernel_rfl) (by simp) ?_
    refine AC (i := 12) (fun K hK => ?_) AllReadyH.nil
    refine step_call_h rfl 35 _ _ #[.slice b pc.length c, .int .i64 (bc : Int)] rfl rfl (enters_of Try.func35 (by kernel_rfl) rfl) (HF.out.mono ?_)
    rintro e w3 ⟨rfl, rfl⟩
    refine ⟨_, rfl, hK.out _ _ hS2 (fun _ => ?_)⟩
    clear hK K HF
    (try simp only [pS])
    cases hfl : fillF pc (bc : Int) with
    | false =>
      rw [hfl] at HR
      have HRF := Lib.hid (show R = false by rw [← HR.out]; simp)
      clear hfl t1 t1'
      refine TC 13 ?_
      (try simp only [pS])
      refine TC 14 ?_
      (try simp only [pS])
      refine SK 15 ?_
      (try simp only [pS])
      refine SK 16 ?_
      (try simp only [pS])
      refine SK 17 ?_
      (try simp only [pS])
      refine SK 18 ?_
      (try simp only [pS])
      refine SK 19 ?_
      (try simp only [pS])
      refine SK 20 ?_
      (try simp only [pS])
      refine SK 21 ?_
      (try simp only [pS])
      refine SK 22 ?_
      (try simp only [pS])
      refine SK 23 ?_
      (try simp only [pS])
      refine SK 24 ?_
      (try simp only [pS])
      refine SK 25 ?_
      (try simp only [pS])
      refine SK 26 ?_
      (try simp only [pS])
      refine SK 27 ?_
      (try simp only [pS])
      refine TC 28 ?_
      (try simp only [pS])
      refine TC 29 ?_
      (try simp only [pS])
      refine wpAnyH_done (by kernel_rfl) ?_ _
      go_wp2
      go_ret
      exact ⟨by rw [HRF.out]; rfl, hS2.b⟩
    | true =>
      rw [hfl, decide_eq_true HLEN.out, Bool.true_and, Bool.true_and, ← HZ.out] at HR
      clear hfl t1 t1'
      refine TC 13 ?_
      (try simp only [pS])
      refine TC 14 ?_
      (try simp only [pS])
      refine TX 15 (YL rfl 35 _ rfl w.heap.size 0 rfl _ [.int .i64 (bc : Int), vn, vt, .slice ak nk ck, .int .i64 (r : Int), vm, vc, vb, ve] _ _ (fun _ h => h.hg) rfl Try.underlying35 rfl info_game) ?_
      (try simp only [pS])
      refine TC 16 ?_
      (try simp only [pS])
      refine TC 17 ?_
      (try simp only [pS])
      refine TC 18 ?_
      (try simp only [pS])
      refine TC 20 ?_
      (try simp only [pS])
      refine TX 21 (YL rfl 25 _ rfl (w.heap.size + 1) 1 rfl _ [.slice b0 h0.length c0, .slice b1 h1.length c1] _ _ (fun _ h => h.hq) rfl Try.underlying25 rfl info_hand) ?_
      (try simp only [pS])
      refine TC 22 ?_
      (try simp only [pS])
      refine TC 23 ?_
      (try simp only [pS])
      refine TC 24 ?_
      (try simp only [pS])
      refine TC 25 ?_
      (try simp only [pS])
      refine wpAnyH_ready (rs := [19]) (by kernel_rfl) (by simp) ?_
      refine AC (i := 19) (fun K hK => ?_) AllReadyH.nil
      refine step_mk rfl _ _ rfl bc rfl rfl (by omega) ?_
      intro w4 ho4 hb4
      have hS4 := hS2.up hb4
      refine hK.out _ _ hS4 (fun _ => ?_)
      clear hK K
      (try simp only [pS])
      have hI4 : Ints w4.heap.size w4 (some ⟨w3.heap.size, 0, none⟩) (List.replicate bc 0) := ho4.ints'
      have HV := Lib.hid (posValid_any bc r ks vn vt vm vc vb ve ⟨List.replicate bc 0, h0, h1, rg, sd⟩ ak (some ⟨w3.heap.size, 0, none⟩) b0 b1 ck bc c0 c1 w4.heap.size w4 hr (by have := HNK.out; omega) ⟨by simp [maxLen]; omega, hp2, hp3⟩ (Nat.le_refl _) ⟨hI4, (HP2.out.h0.up hN2 hb4).mono (Nat.le_trans hN2 hb4.size), (HP2.out.h1.up hN2 hb4).mono (Nat.le_trans hN2 hb4.size)⟩ (keeps_mono (HK2.out.below (hb4.mono hN2)) (Nat.le_trans hN2 hb4.size)))
      unfold PosV at HV
      dsimp only at HV
      rw [List.length_replicate, ← HNK.out, HR.out] at HV
      clear hI4 ho4
      refine TC 26 ?_
      (try simp only [pS])
      refine wpAnyH_ready (rs := [27]) (by kernel_rfl) (by simp) ?_
      refine AC (i := 27) (fun K hK => ?_) AllReadyH.nil
      refine step_call_h rfl 36 _ _ #[.agg #[.int .i64 (bc : Int), vn, vt, .slice ak nk ck, .int .i64 (r : Int), vm, vc, vb, ve], .agg #[.slice (some ⟨w3.heap.size, 0, none⟩) bc bc, .slice b0 h0.length c0, .slice b1 h1.length c1, .int .i64 rg, .int .i64 sd]] rfl rfl (enters_of Try.func36 (by kernel_rfl) rfl) (HV.out.mono ?_)
      rintro e w5 ⟨rfl, hb5⟩
      have hS5 := hS4.up hb5
      refine ⟨_, rfl, hK.out _ _ hS5 (fun _ => ?_)⟩
      clear hK K HV
      (try simp only [pS])
      refine TC 28 ?_
      (try simp only [pS])
      refine TC 29 ?_
      (try simp only [pS])
      refine wpAnyH_done (by kernel_rfl) ?_ _
      go_wp2
      go_ret
      exact ⟨rfl, hS5.b⟩
  · have t1 : ((pc.length : Int) == ((2 * nk + 1 : Nat) : Int)) = false := by simp; omega
    have t1' : ((pc.length : Int) == 2 * (nk : Int) + 1) = false := by simp; omega
    have HRF := Lib.hid (show R = false by rw [← HR.out, decide_eq_false hlen]; simp)
    clear hlen
    refine TC 5 ?_
    (try simp only [pS])
    refine TC 6 ?_
    (try simp only [pS])
    refine SK 7 ?_
    (try simp only [pS])
    refine SK 8 ?_
    (try simp only [pS])
    refine SK 9 ?_
    (try simp only [pS])
    refine SK 10 ?_
    (try simp only [pS])
    refine SK 11 ?_
    (try simp only [pS])
    refine SK 12 ?_
    (try simp only [pS])
    refine TC 13 ?_
    (try simp only [pS])
    refine TC 14 ?_
    (try simp only [pS])
    refine SK 15 ?_
    (try simp only [pS])
    refine SK 16 ?_
    (try simp only [pS])
    refine SK 17 ?_
    (try simp only [pS])
    refine SK 18 ?_
    (try simp only [pS])
    refine SK 19 ?_
    (try simp only [pS])
    refine SK 20 ?_
    (try simp only [pS])
    refine SK 21 ?_
    (try simp only [pS])
    refine SK 22 ?_
    (try simp only [pS])
    refine SK 23 ?_
    (try simp only [pS])
    refine SK 24 ?_
    (try simp only [pS])
    refine SK 25 ?_
    (try simp only [pS])
    refine SK 26 ?_
    (try simp only [pS])
    refine SK 27 ?_
    (try simp only [pS])
    refine TC 28 ?_
    (try simp only [pS])
    refine TC 29 ?_
    (try simp only [pS])
    refine wpAnyH_done (by kernel_rfl) ?_ _
    go_wp2
    go_ret
    exact ⟨by rw [HRF.out]; rfl, hS2.b⟩
end Go.Proofs.Ytepbmgbomdekaaa
