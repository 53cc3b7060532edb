/-
  ProgSteps returns true.
-/
import Derived.Test.YtfiokoccfgcmaaaGreatDoorPSan
import Derived.Test.YtfiokoccfgcmaaaGreatDoorPLib
import Derived.Test.YtfiokoccfgcmaaaGreatDoorPLStepsA
import Derived.Deep.DeepCutAuto
import Derived.Deep.CutBlock
namespace Go.Proofs.YtfiokoccfgcmaaaGreatDoor
open Go Go.RowKit Go.Sort Go.Lib

def limOf (op d k r : Int) : Int := if opB op = true then limS d k r (nameS op.toNat) else -1
theorem valid_one (op n d k r : Int) : validP [(op, n)] d k r = (decide (0 ≤ n) && decide (n < limOf op d k r)) := by
  have h6 := cntS_le [(op, n)] 6
  have h7 := cntS_le [(op, n)] 7
  have h8 := cntS_le [(op, n)] 8
  simp only [List.length_cons, List.length_nil] at h6 h7 h8
  have t6 : decide (cntS [(op, n)] 6 ≤ 2) = true := by simp; omega
  have t7 : decide (cntS [(op, n)] 7 ≤ 1) = true := by simp; omega
  have t8 : decide (cntS [(op, n)] 8 ≤ 1) = true := by simp; omega
  unfold validP
  rw [t6, t7, t8]
  simp only [List.length_cons, List.length_nil, List.all_cons, List.all_nil, Bool.and_true]
  unfold okStep limOf
  cases h : opB op with
  | false =>
    simp
    omega
  | true => simp
theorem valid_snoc {l : List (Int × Int)} {x : Int × Int} {d k r : Int} (h1 : 1 ≤ l.length) (h : validP (l ++ [x]) d k r = true) : validP l d k r = true ∧ okStep d k r x = true := by
  unfold validP at h ⊢
  simp only [Bool.and_eq_true, decide_eq_true_eq, List.length_append, List.length_cons, List.length_nil, List.all_append, List.all_cons, List.all_nil, cntS_snoc] at h ⊢
  obtain ⟨a1, a2, ⟨a3, a4, _⟩, a5, a6, a7⟩ := h
  have b6 : 0 ≤ (if x.1 = 6 then (1 : Int) else 0) := by split <;> omega
  have b7 : 0 ≤ (if x.1 = 7 then (1 : Int) else 0) := by split <;> omega
  have b8 : 0 ≤ (if x.1 = 8 then (1 : Int) else 0) := by split <;> omega
  exact ⟨⟨h1, by omega, a3, by omega, by omega, by omega⟩, a4⟩
theorem okStep_lim (op n d k r : Int) (h : okStep d k r (op, n) = true) : (decide (0 ≤ n) && decide (n < limOf op d k r)) = true := by
  unfold okStep at h
  simp only [Bool.and_eq_true, decide_eq_true_eq] at h
  unfold limOf
  rw [if_pos h.1]
  simp [h.2.1, h.2.2]
theorem limOf_eq (op d k r : Int) : limOf op d k r = if (op == 1) = true then d else if (op == 2) = true then d else if (op == 7) = true then d else if (op == 3) = true then 1 else if (op == 4) = true then 1 else if (op == 5) = true then 1 else if (op == 6) = true then 1 else if (op == 8) = true then k else if (op == 9) = true then r else if (op == 10) = true then r else -1 := by
  unfold limOf
  cases h : opB op with
  | false =>
    have hn : ∀ j : Int, 0 < j → j < 11 → ¬ op = j := by
      intro j h0 h1 e
      have : opB op = true := by unfold opB; simp; omega
      rw [this] at h; cases h
    have h1 := hn 1 (by omega) (by omega)
    have h2 := hn 2 (by omega) (by omega)
    have h3 := hn 3 (by omega) (by omega)
    have h4 := hn 4 (by omega) (by omega)
    have h5 := hn 5 (by omega) (by omega)
    have h6 := hn 6 (by omega) (by omega)
    have h7 := hn 7 (by omega) (by omega)
    have h8 := hn 8 (by omega) (by omega)
    have h9 := hn 9 (by omega) (by omega)
    have h10 := hn 10 (by omega) (by omega)
    simp [h1, h2, h3, h4, h5, h6, h7, h8, h9, h10]
  | true =>
    obtain ⟨j, rfl, h0, h11⟩ := opB_nat h
    clear h
    have : j = 1 ∨ j = 2 ∨ j = 3 ∨ j = 4 ∨ j = 5 ∨ j = 6 ∨ j = 7 ∨ j = 8 ∨ j = 9 ∨ j = 10 := by omega
    clear h0 h11
    rcases this with rfl | rfl | rfl | rfl | rfl | rfl | rfl | rfl | rfl | rfl <;> simp [limS, nameS, namesL]

/-- The boxes of the law's first two arguments. -/
structure Bx (W : World) (b1 b2 : Nat) (op n d k r : Int) : Prop where
  o : W.cell? ⟨b1, 0, none⟩ = some (.int .i64 op)
  n : W.cell? ⟨b1, 1, none⟩ = some (.int .i64 n)
  d : W.cell? ⟨b2, 0, none⟩ = some (.int .i64 d)
  k : W.cell? ⟨b2, 1, none⟩ = some (.int .i64 k)
  r : W.cell? ⟨b2, 2, none⟩ = some (.int .i64 r)
theorem Bx.up {W W' : World} {b1 b2 : Nat} {op n d k r : Int} (h : Bx W b1 b2 op n d k r) (hb : Below W.heap.size W W') : Bx W' b1 b2 op n d k r :=
  ⟨cell_keep hb h.o, cell_keep hb h.n, cell_keep hb h.d, cell_keep hb h.k, cell_keep hb h.r⟩

set_option maxRecDepth 100000 in
set_option maxHeartbeats 3000000 in
theorem psteps_any (op n d k r : Int) (l : List Nat) (al : Option Addr) (cl N : Nat) (w : World) (hL : LibIn w) (hN : N ≤ w.heap.size) (hI : U8s N w al l) :
    Calls Tryz.prog 9 #[.agg #[.int .i64 op, .int .i64 n], .agg #[.int .i64 d, .int .i64 k, .int .i64 r], .slice al l.length cl] w fun e w' => e = .returned (.bool true) ∧ Below w.heap.size w w' := by
  go_enter Tryz.func9, Tryz.ntmps9
  go_wp2_with fail
  have b0 : Below w.heap.size w ((w.alloc (.cells #[.int .i64 op, .int .i64 n] 41)).alloc (.cells #[.int .i64 d, .int .i64 k, .int .i64 r] 24)) := below_alloc (below_alloc (Below.refl _ _) _) _
  have x0 : Bx ((w.alloc (.cells #[.int .i64 op, .int .i64 n] 41)).alloc (.cells #[.int .i64 d, .int .i64 k, .int .i64 r] 24)) w.heap.size (w.heap.size + 1) op n d k r :=
    ⟨cell_alloc_keep (cell_new_at _ _ _ _ _ _ rfl rfl) _, cell_alloc_keep (cell_new_at _ _ _ _ _ _ rfl rfl) _, cell_new_at _ _ _ _ _ _ (by simp) rfl, cell_new_at _ _ _ _ _ _ (by simp) rfl, cell_new_at _ _ _ _ _ _ (by simp) rfl⟩
  generalize (w.alloc (.cells #[.int .i64 op, .int .i64 n] 41)).alloc (.cells #[.int .i64 d, .int .i64 k, .int .i64 r] 24) = w0 at *
  refine (sanity_any w0 (hL.up b0)).mono ?_
  rintro e w1 ⟨rfl, hb1⟩
  have hbw := below_step b0 hb1
  have hx := x0.up hb1
  clear x0 b0 hb1
  generalize w.heap.size + 1 = B2 at *
  have HX := Lib.hid hx
  obtain ⟨o1, n1, d1, k1, r1⟩ := hx
  go_upto_block 0 with fail
  go_cut [8] (fun s wx => s = .int .i64 (limOf op d k r) ∧ wx = w1)
  case first =>
    go_wp2
    all_goals
      go_meet
      case rel => exact ⟨by rw [limOf_eq]; simp [*], rfl⟩
  case rest =>
    obtain ⟨rfl, rfl⟩ := hcut
    have hL1 := hL.up hbw
    have hI1 := hI.up hN hbw
    have hN1 := Nat.le_trans hN hbw.size
    clear hL hI
    (try clear o1 n1 d1 k1 r1)
    obtain ⟨o1, n1, d1, k1, r1⟩ := HX.out
    have hB1 := World.block_lt_of_cell? _ _ o1
    have hB2 := World.block_lt_of_cell? _ _ d1
    have hb2 : Below wc.heap.size wc (wc.alloc (.cells #[.int .i64 op, .int .i64 n] 41)) := below_alloc (Below.refl _ _) _
    have hpl := prg_lit wc wc.heap.size op n rfl
    have hv := valid_any [(op, n)] (some ⟨wc.heap.size, 0, none⟩) 1 d k r _ _ (Nat.le_refl _) hpl (hL1.up hb2).signs
    rw [valid_one] at hv
    have HV := Lib.hid hv
    have HX2 := Lib.hid (HX.out.up hb2)
    have HL2 := Lib.hid (hL1.up hb2)
    have HI2 := Lib.hid (hI1.up hN1 hb2)
    have hbw2 := below_step hbw hb2
    have hN2 := Nat.le_trans hN1 hb2.size
    clear hv hpl hL1 hI1
    generalize hlim : limOf op d k r = lim at *
    have HLIM := Lib.hid hlim
    clear hlim
    go_wp2_with fail
    refine HV.out.mono ?_
    generalize wc.alloc (.cells #[.int .i64 op, .int .i64 n] 41) = w2 at *
    generalize hone : (decide (0 ≤ n) && decide (n < lim)) = ob
    rintro e w3 ⟨rfl, hb3⟩
    have HONE := Lib.hid hone
    clear hone
    have HX3 := Lib.hid (HX2.out.up hb3)
    have HL3 := Lib.hid (HL2.out.up hb3)
    have HI3 := Lib.hid (HI2.out.up hN2 hb3)
    have hbw3 := below_step hbw2 hb3
    have hN3 := Nat.le_trans hN2 hb3.size
    have HLB := Lib.hid (lib_any l al cl N w3 hN3 HI3.out)
    clear HX2 HL2 HI2 hbw2 hN2 hb2 hb3 o1 n1 d1 k1 r1 hB1 hB2 HX hbw hN1
    obtain ⟨o1, n1, d1, k1, r1⟩ := HX3.out
    have hB1 := World.block_lt_of_cell? _ _ o1
    have hB2 := World.block_lt_of_cell? _ _ d1
    go_upto_region 19 with (fail)
    go_cut [54] (fun s wx => s = .bool false ∧ wx = w3)
    case first =>
      by_cases h0 : 0 ≤ n
      · have t0 : decide (0 ≤ n) = true := by simpa using h0
        by_cases h1 : n < lim
        · have t1 : decide (n < lim) = true := by simpa using h1
          obtain rfl : true = ob := by have := HONE.out; rw [t0, t1] at this; exact this
          clear h0 h1
          go_wp2
          go_meet
          case rel => exact ⟨rfl, rfl⟩
        · have t1 : decide (n < lim) = false := by simpa using h1
          obtain rfl : false = ob := by have := HONE.out; rw [t0, t1] at this; exact this
          clear h0 h1
          go_wp2
          go_meet
          case rel => exact ⟨rfl, rfl⟩
      · have t0 : decide (0 ≤ n) = false := by simpa using h0
        obtain rfl : false = ob := by have := HONE.out; rw [t0] at this; exact this
        clear h0
        go_wp2
        go_meet
        case rel => exact ⟨rfl, rfl⟩
    case rest =>
      obtain ⟨rfl, rfl⟩ := hcut
      go_wp2_with fail
      refine HLB.out.mono ?_
      rintro e w4 ⟨v, rfl, hown, hb4⟩
      obtain ⟨hl1, hl6⟩ := lib_len l
      generalize libS l = P at *
      obtain ⟨g, cap, rfl, hg1, hg2⟩ := hown.some_of hl1
      obtain ⟨_, _, e, hprg⟩ := hown.prg
      cases e
      have HP := Lib.hid (show Prg w4.heap.size w4 (some ⟨g, 0, none⟩) P from hprg)
      have HX4 := Lib.hid (HX3.out.up hb4)
      have HL4 := Lib.hid (HL3.out.up hb4)
      have hbw4 := below_step hbw3 hb4
      clear hprg hown hb4 HX3 HL3 HI3 hbw3 hN3 HLB o1 n1 d1 k1 r1 hB1 hB2 HV
      obtain ⟨o1, n1, d1, k1, r1⟩ := HX4.out
      have hB1 := World.block_lt_of_cell? _ _ o1
      have hB2 := World.block_lt_of_cell? _ _ d1
      go_upto_region 22 with (fail)
      go_cut [11] (fun s wx => OwnStp w4.heap.size wx s (P ++ [(op, n)]) ∧ Below w4.heap.size w4 wx)
      case first =>
        refine psteps_r22 w.heap.size g cap P op n _ _ _ _ _ _ _ _ _ _ _ _ _ _ _ _ _ _ _ _ _ _ _ _ _ _ _ _ _ _ _ _ _ _ _ _ _ _ _ _ _ _ _ _ _ _ _ _ _ _ _ _ _ _ _ _ _ _ _ _ _ _ _ _ _ _ _ _ _ _ _ _ _ _ _ _ _ _ _ _ _ _ _ _ _ _ w4 _ hl6 HP o1 n1 (Lib.hid ?_)
        intro s57 s58 s59 s60 s61 s62 v6 w6 ho6 hb6
        go_wp2
        go_meet
        case rel => exact ⟨ho6, hb6⟩
      case rest =>
        obtain ⟨ho6, hb6⟩ := hcut
        obtain ⟨a6, c6, rfl, hpr6⟩ := ho6.prg
        have hv6 := valid_any (P ++ [(op, n)]) a6 c6 d k r _ wc (Nat.le_refl _) hpr6 (HL4.out.up hb6).signs
        generalize (P ++ [(op, n)]).length = m6 at hv6 ⊢
        have HX6 := Lib.hid (HX4.out.up hb6)
        have HV6 := Lib.hid hv6
        have hbw6 := below_step hbw4 hb6
        have HPP := Lib.hid (HP.out.below hb6)
        have HL6 := Lib.hid (HL4.out.up hb6)
        have hs6 := hb6.size
        clear o1 n1 d1 k1 r1 hB1 hB2 hv6 ho6 hb6 hpr6
        obtain ⟨o1, n1, d1, k1, r1⟩ := HX6.out
        have hB1 := World.block_lt_of_cell? _ _ o1
        have hB2 := World.block_lt_of_cell? _ _ d1
        cases hvv : validP (P ++ [(op, n)]) d k r with
        | true =>
          obtain ⟨hvp, hok⟩ := valid_snoc hl1 hvv
          have hone := okStep_lim op n d k r hok
          rw [HLIM.out, HONE.out] at hone
          subst hone
          have HVV := Lib.hid hvv
          have HVP := Lib.hid hvp
          clear hvv hvp hok
          go_wp2_with fail
          refine HV6.out.mono ?_
          rintro e w7 ⟨rfl, hb7⟩
          rw [HVV.out]
          have hv7 := valid_any P (some ⟨g, 0, none⟩) cap d k r w4.heap.size w7 (Nat.le_trans hs6 hb7.size) (HPP.out.below (hb7.mono hs6)) (HL6.out.up hb7).signs
          rw [HVP.out] at hv7
          have HV7 := Lib.hid hv7
          have HX7 := Lib.hid (HX6.out.up hb7)
          have hbw7 := below_step hbw6 hb7
          clear o1 n1 d1 k1 r1 hB1 hB2 hv7 hb7
          obtain ⟨o1, n1, d1, k1, r1⟩ := HX7.out
          have hB1 := World.block_lt_of_cell? _ _ o1
          have hB2 := World.block_lt_of_cell? _ _ d1
          go_wp2_with fail
          refine HV7.out.mono ?_
          rintro e w8 ⟨rfl, hb8⟩
          have hbw8 := below_step hbw7 hb8
          clear hb8
          go_wp2
          go_ret
          exact ⟨rfl, hbw8⟩
        | false =>
          have HVV := Lib.hid hvv
          clear hvv
          go_wp2_with fail
          refine HV6.out.mono ?_
          rintro e w7 ⟨rfl, hb7⟩
          rw [HVV.out]
          have hbw7 := below_step hbw6 hb7
          clear hb7
          go_wp2
          go_ret
          exact ⟨rfl, hbw7⟩

end Go.Proofs.YtfiokoccfgcmaaaGreatDoor
