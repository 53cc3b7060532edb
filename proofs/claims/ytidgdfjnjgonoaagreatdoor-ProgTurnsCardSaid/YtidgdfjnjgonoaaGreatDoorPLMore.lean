/-
  ProgMore returns true.
-/
import Derived.Test.YtidgdfjnjgonoaaGreatDoorPSan
import Derived.Test.YtidgdfjnjgonoaaGreatDoorPLMoreA
import Derived.Deep.DeepCutAuto
namespace Go.Proofs.YtidgdfjnjgonoaaGreatDoor
open Go Go.RowKit Go.Sort Go.Lib

theorem okStep_mono {d k r d' k' r' : Int} (h1 : d ≤ d') (h2 : k ≤ k') (h3 : r ≤ r') {x : Int × Int} (h : okStep d k r x = true) : okStep d' k' r' x = true := by
  unfold okStep at h ⊢
  simp only [Bool.and_eq_true, decide_eq_true_eq] at h ⊢
  refine ⟨h.1, h.2.1, ?_⟩
  have h4 := h.2.2
  unfold limS at h4 ⊢
  split <;> rename_i e1
  · rw [if_pos e1] at h4; exact h4
  · rw [if_neg e1] at h4
    split <;> rename_i e2
    · rw [if_pos e2] at h4; omega
    · rw [if_neg e2] at h4
      split <;> rename_i e3
      · rw [if_pos e3] at h4; omega
      · rw [if_neg e3] at h4; omega
theorem valid_mono {P : List (Int × Int)} {d k r d' k' r' : Int} (h1 : d ≤ d') (h2 : k ≤ k') (h3 : r ≤ r') (h : validP P d k r = true) : validP P d' k' r' = true := by
  unfold validP at h ⊢
  simp only [Bool.and_eq_true, List.all_eq_true] at h ⊢
  exact ⟨h.1, h.2.1, fun x hx => okStep_mono h1 h2 h3 (h.2.2.1 x hx), h.2.2.2⟩

def bareOp (x : Int × Int) : Bool := decide (3 ≤ x.1) && decide (x.1 ≤ 6)
theorem bare_one {x : Int × Int} (h : okStep 8 6 4 x = true) : okStep 0 0 0 x = bareOp x := by
  obtain ⟨op, n⟩ := x
  unfold okStep at h
  simp only [Bool.and_eq_true, decide_eq_true_eq] at h
  obtain ⟨ho, h0, hl⟩ := h
  obtain ⟨j, rfl, j0, j11⟩ := opB_nat ho
  have : j = 1 ∨ j = 2 ∨ j = 3 ∨ j = 4 ∨ j = 5 ∨ j = 6 ∨ j = 7 ∨ j = 8 ∨ j = 9 ∨ j = 10 := by omega
  clear ho j0 j11
  rcases this with rfl | rfl | rfl | rfl | rfl | rfl | rfl | rfl | rfl | rfl <;> simp [okStep, bareOp, opB, limS, nameS, namesL] at hl ⊢ <;> omega
theorem bare_eq {P : List (Int × Int)} (hv : validP P 8 6 4 = true) : validP P 0 0 0 = P.all bareOp := by
  have hall : P.all (okStep 0 0 0) = P.all bareOp := by
    unfold validP at hv
    simp only [Bool.and_eq_true, List.all_eq_true] at hv
    have hx := hv.2.2.1
    clear hv
    induction P with
    | nil => rfl
    | cons x l ih =>
      rw [List.all_cons, List.all_cons, bare_one (hx x (by simp)), ih (fun y hy => hx y (by simp [hy]))]
  unfold validP at hv ⊢
  simp only [Bool.and_eq_true] at hv
  rw [hall, hv.1, hv.2.1, hv.2.2.2.1, hv.2.2.2.2.1, hv.2.2.2.2.2]
  simp
theorem lib_valid (l : List Nat) : validP (libS l) 8 6 4 = true := by
  unfold libS
  have hD : 0 ≤ ((l[1]?.getD 0 : Nat) : Int) % 8 ∧ ((l[1]?.getD 0 : Nat) : Int) % 8 < 8 := by omega
  have hE : 0 ≤ ((l[2]?.getD 0 : Nat) : Int) % 8 ∧ ((l[2]?.getD 0 : Nat) : Int) % 8 < 8 := by omega
  have hB : 0 ≤ (((l[1]?.getD 0 : Nat) : Int) + 4) % 8 ∧ (((l[1]?.getD 0 : Nat) : Int) + 4) % 8 < 8 := by omega
  have hK : 0 ≤ ((l[3]?.getD 0 : Nat) : Int) % 6 ∧ ((l[3]?.getD 0 : Nat) : Int) % 6 < 6 := by omega
  have hR : 0 ≤ ((l[4]?.getD 0 : Nat) : Int) % 4 ∧ ((l[4]?.getD 0 : Nat) : Int) % 4 < 4 := by omega
  generalize ((l[1]?.getD 0 : Nat) : Int) % 8 = D at *
  generalize ((l[2]?.getD 0 : Nat) : Int) % 8 = E at *
  generalize (((l[1]?.getD 0 : Nat) : Int) + 4) % 8 = B at *
  generalize ((l[3]?.getD 0 : Nat) : Int) % 6 = K at *
  generalize ((l[4]?.getD 0 : Nat) : Int) % 4 = R at *
  have h : l[0]?.getD 0 % 16 < 16 := Nat.mod_lt _ (by omega)
  generalize l[0]?.getD 0 % 16 = i at h
  have : i = 0 ∨ i = 1 ∨ i = 2 ∨ i = 3 ∨ i = 4 ∨ i = 5 ∨ i = 6 ∨ i = 7 ∨ i = 8 ∨ i = 9 ∨ i = 10 ∨ i = 11 ∨ i = 12 ∨ i = 13 ∨ i = 14 ∨ i = 15 := by omega
  rcases this with rfl | rfl | rfl | rfl | rfl | rfl | rfl | rfl | rfl | rfl | rfl | rfl | rfl | rfl | rfl | rfl <;> simp [libL, validP, okStep, opB, limS, nameS, namesL, cntS] <;> omega

def bareTo (P : List (Int × Int)) (q : Nat) : Bool := (P.take q).all bareOp
theorem bareTo_succ (P : List (Int × Int)) (q : Nat) (h : q < P.length) : bareTo P (q + 1) = (bareTo P q && bareOp (P[q]?.getD (0, 0))) := by
  unfold bareTo
  have e : P[q]?.toList = [P[q]?.getD (0, 0)] := by simp [h]
  rw [List.take_add_one, e, List.all_append]
  simp only [List.all_cons, List.all_nil, Bool.and_true]

set_option maxRecDepth 100000 in
set_option maxHeartbeats 4000000 in
theorem pmore_any (l : List Nat) (al : Option Addr) (cl N a0 a1 a2 m0 m1 m2 : Nat) (ha0 : a0 ≤ 255) (ha1 : a1 ≤ 255) (ha2 : a2 ≤ 255) (hm0 : m0 ≤ 255) (hm1 : m1 ≤ 255) (hm2 : m2 ≤ 255) (w : World) (hL : LibIn w) (hN : N ≤ w.heap.size) (hI : U8s N w al l) :
    Calls Tryz.prog 7 #[.slice al l.length cl, .agg #[.int .u8 a0, .int .u8 a1, .int .u8 a2], .agg #[.int .u8 m0, .int .u8 m1, .int .u8 m2]] w fun e w' => e = .returned (.bool true) ∧ Below w.heap.size w w' := by
  have q0 : IntKind.i64.wrap ((a0 : Int).tmod 9) = ((a0 % 9 : Nat) : Int) := by rw [Int.tmod_eq_emod_of_nonneg (by omega), IntWalk.i64_in _ (by omega)]; omega
  have q1 : IntKind.i64.wrap ((a1 : Int).tmod 9) = ((a1 % 9 : Nat) : Int) := by rw [Int.tmod_eq_emod_of_nonneg (by omega), IntWalk.i64_in _ (by omega)]; omega
  have q2 : IntKind.i64.wrap ((a2 : Int).tmod 9) = ((a2 % 9 : Nat) : Int) := by rw [Int.tmod_eq_emod_of_nonneg (by omega), IntWalk.i64_in _ (by omega)]; omega
  obtain ⟨n0, e0⟩ : ∃ n0, n0 = a0 % 9 := ⟨_, rfl⟩
  obtain ⟨n1, e1⟩ : ∃ n1, n1 = a1 % 9 := ⟨_, rfl⟩
  obtain ⟨n2, e2⟩ : ∃ n2, n2 = a2 % 9 := ⟨_, rfl⟩
  have k0 : n0 ≤ 8 := by omega
  have k1 : n1 ≤ 8 := by omega
  have k2 : n2 ≤ 8 := by omega
  rw [← e0] at q0
  rw [← e1] at q1
  rw [← e2] at q2
  have Q0 := Lib.hid q0
  have Q1 := Lib.hid q1
  have Q2 := Lib.hid q2
  have M0 := Lib.hid (IntWalk.i64_in (m0 : Int) (by omega))
  have M1 := Lib.hid (IntWalk.i64_in (m1 : Int) (by omega))
  have M2 := Lib.hid (IntWalk.i64_in (m2 : Int) (by omega))
  have S0 := Lib.hid (IntWalk.i64_in ((n0 : Int) + m0) (by omega))
  have S1 := Lib.hid (IntWalk.i64_in ((n1 : Int) + m1) (by omega))
  have S2 := Lib.hid (IntWalk.i64_in ((n2 : Int) + m2) (by omega))
  clear q0 q1 q2 e0 e1 e2
  have HLV := Lib.hid (lib_valid l)
  have HLN := Lib.hid (lib_len l)
  go_enter Tryz.func7, Tryz.ntmps7
  go_wp2_with fail
  have b0 : Below w.heap.size w ((w.alloc (.cells #[.int .u8 a0, .int .u8 a1, .int .u8 a2] 54)).alloc (.cells #[.int .u8 m0, .int .u8 m1, .int .u8 m2] 54)) := below_alloc (below_alloc (Below.refl _ _) _) _
  have x0 : ((w.alloc (.cells #[.int .u8 a0, .int .u8 a1, .int .u8 a2] 54)).alloc (.cells #[.int .u8 m0, .int .u8 m1, .int .u8 m2] 54)).cell? ⟨w.heap.size, 0, none⟩ = some (.int .u8 a0) := cell_alloc_keep (cell_new_at _ _ _ _ _ _ rfl rfl) _
  have x1 : ((w.alloc (.cells #[.int .u8 a0, .int .u8 a1, .int .u8 a2] 54)).alloc (.cells #[.int .u8 m0, .int .u8 m1, .int .u8 m2] 54)).cell? ⟨w.heap.size, 1, none⟩ = some (.int .u8 a1) := cell_alloc_keep (cell_new_at _ _ _ _ _ _ rfl rfl) _
  have x2 : ((w.alloc (.cells #[.int .u8 a0, .int .u8 a1, .int .u8 a2] 54)).alloc (.cells #[.int .u8 m0, .int .u8 m1, .int .u8 m2] 54)).cell? ⟨w.heap.size, 2, none⟩ = some (.int .u8 a2) := cell_alloc_keep (cell_new_at _ _ _ _ _ _ rfl rfl) _
  have y0 : ((w.alloc (.cells #[.int .u8 a0, .int .u8 a1, .int .u8 a2] 54)).alloc (.cells #[.int .u8 m0, .int .u8 m1, .int .u8 m2] 54)).cell? ⟨w.heap.size + 1, 0, none⟩ = some (.int .u8 m0) := cell_new_at _ _ _ _ _ _ (by simp) rfl
  have y1 : ((w.alloc (.cells #[.int .u8 a0, .int .u8 a1, .int .u8 a2] 54)).alloc (.cells #[.int .u8 m0, .int .u8 m1, .int .u8 m2] 54)).cell? ⟨w.heap.size + 1, 1, none⟩ = some (.int .u8 m1) := cell_new_at _ _ _ _ _ _ (by simp) rfl
  have y2 : ((w.alloc (.cells #[.int .u8 a0, .int .u8 a1, .int .u8 a2] 54)).alloc (.cells #[.int .u8 m0, .int .u8 m1, .int .u8 m2] 54)).cell? ⟨w.heap.size + 1, 2, none⟩ = some (.int .u8 m2) := cell_new_at _ _ _ _ _ _ (by simp) rfl
  generalize (w.alloc (.cells #[.int .u8 a0, .int .u8 a1, .int .u8 a2] 54)).alloc (.cells #[.int .u8 m0, .int .u8 m1, .int .u8 m2] 54) = w0 at *
  refine (sanity_any w0 (hL.up b0)).mono ?_
  rintro e w1 ⟨rfl, hb1⟩
  have hbw := below_step b0 hb1
  replace x0 := cell_keep hb1 x0
  replace x1 := cell_keep hb1 x1
  replace x2 := cell_keep hb1 x2
  replace y0 := cell_keep hb1 y0
  replace y1 := cell_keep hb1 y1
  replace y2 := cell_keep hb1 y2
  have HL1 := Lib.hid (hL.up hbw)
  have HI1 := Lib.hid (hI.up hN hbw)
  have hN1 := Nat.le_trans hN hbw.size
  clear b0 hb1 hL hI
  go_upto_region 2 with (fail)
  refine more_r2 l al cl N w.heap.size a0 a1 a2 w1 _ _ _ _ _ _ _ _ _ _ _ _ _ _ _ _ _ _ _ _ _ _ _ _ _ _ _ _ _ _ _ _ _ _ _ _ _ _ _ _ _ _ _ _ _ _ _ _ _ _ _ _ _ _ _ _ _ _ _ _ _ _ _ _ _ _ _ _ _ _ _ _ _ _ _ _ _ _ _ _ _ _ _ _ _ _ _ _ _ _ _ _ _ _ _ _ n0 n1 n2 Q0.out Q1.out Q2.out hN1 HI1 x0 x1 x2 (Lib.hid ?_)
  intro s15 s16 s17 s18 s19 s20 s21 s22 s23 s24 s25 s26 s27 s28 s29 g cap b9 w2 hp z0 z1 z2 hb2
  have hbw2 := below_step hbw hb2
  have HL2 := Lib.hid (HL1.out.up hb2)
  have HP2 := Lib.hid hp
  replace y0 := cell_keep hb2 y0
  replace y1 := cell_keep hb2 y1
  replace y2 := cell_keep hb2 y2
  clear x0 x1 x2 HL1 HI1 hbw hb2 hp hN1
  generalize libS l = P at *
  go_upto_region 3 with (fail)
  refine more_r3 P g cap (w.heap.size + 1) b9 n0 n1 n2 m0 m1 m2 w2 _ _ _ _ _ _ _ _ _ _ _ _ _ _ _ _ _ _ _ _ _ _ _ _ _ _ _ _ _ _ _ _ _ _ _ _ _ _ _ _ _ _ _ _ _ _ _ _ _ _ _ _ _ _ _ _ _ _ _ _ _ _ _ _ _ _ _ _ _ _ _ _ _ _ _ _ _ _ _ _ _ _ _ _ _ _ _ _ _ _ _ _ _ _ _ M0.out M1.out M2.out S0.out S1.out S2.out HP2 HL2 z0 z1 z2 y0 y1 y2 (Lib.hid ?_)
  intro s30 s31 s32 s33 s34 s35 s36 s37 s38 s39 s40 s41 s42 s43 s44 s45 s46 s47 s48 s49 s50 s51 s52 s53 s54 s55 s56 s57 w3 hb3
  have hbw3 := below_step hbw2 hb3
  have hs3 := hb3.size
  have HL3 := Lib.hid (HL2.out.up hb3)
  have HP3 := Lib.hid (HP2.out.below hb3)
  clear y0 y1 y2 z0 z1 z2 HL2 hbw2 hb3
  have HMONO := Lib.hid (fun (h : validP P n0 n1 n2 = true) => valid_mono (P := P) (d' := (n0 : Int) + m0) (k' := (n1 : Int) + m1) (r' := (n2 : Int) + m2) (by omega) (by omega) (by omega) h)
  have hl8 : P.length ≤ 6 := HLN.out.2
  generalize hsm : validP P n0 n1 n2 = sm at *
  generalize hgr : validP P ((n0 : Int) + m0) ((n1 : Int) + m1) ((n2 : Int) + m2) = gr at *
  have HX := Lib.hid (show sm = true → gr = true from HMONO.out)
  clear HMONO hsm hgr
  go_upto_region 4 with (fail)
  go_cut [62] (fun s wx => s = .bool false ∧ wx = w3)
  case first =>
    cases sm with
    | true =>
      obtain rfl : gr = true := HX.out rfl
      go_wp2
      go_meet
      case rel => exact ⟨rfl, rfl⟩
    | false =>
      go_wp2
      go_meet
      case rel => exact ⟨rfl, rfl⟩
  case rest =>
    obtain ⟨rfl, rfl⟩ := hcut
    go_wp2_with fail
    go_loop [12, 13] (fun b i => ∃ q : Nat, q ≤ P.length ∧ i = .int .i64 q ∧ b = .bool (bareTo P q)) (fun _ i => P.length - (intOf i).toNat)
    case atStart => exact ⟨0, Nat.zero_le _, rfl, rfl⟩
    case round =>
      obtain ⟨q, hq, rfl, rfl⟩ := hrel
      by_cases hlt : q < P.length
      · obtain ⟨bp, off, hab, hbN, hop, hnn⟩ := HP3.out.at_ hlt
        cases hab
        rw [Nat.zero_add] at hop hnn
        have hsn := bareTo_succ P q hlt
        generalize P[q]?.getD (0, 0) = x at hop hnn hsn
        obtain ⟨op, n⟩ := x
        dsimp only at hop hnn
        generalize bareTo P q = bq at *
        unfold bareOp at hsn
        dsimp only at hsn
        cases bq with
        | false =>
          have HB := Lib.hid (show bareTo P (q + 1) = false by rw [hsn]; rfl)
          clear hsn hnn hop
          go_wp2
          go_round
          case rel => exact ⟨q + 1, by omega, by simp, by rw [HB.out]⟩
          case measure => simp [intOf]; omega
        | true =>
          by_cases h3 : 3 ≤ op
          · have t3 : decide (3 ≤ op) = true := by simpa using h3
            by_cases h6 : op ≤ 6
            · have t6 : decide (op ≤ 6) = true := by simpa using h6
              have HB := Lib.hid (show bareTo P (q + 1) = true by rw [hsn, t3, t6]; rfl)
              clear hsn hnn h3 h6
              go_wp2
              go_round
              case rel => exact ⟨q + 1, by omega, by simp, by rw [HB.out]⟩
              case measure => simp [intOf]; omega
            · have t6 : decide (op ≤ 6) = false := by simpa using h6
              have HB := Lib.hid (show bareTo P (q + 1) = false by rw [hsn, t3, t6]; rfl)
              clear hsn hnn h3 h6
              go_wp2
              go_round
              case rel => exact ⟨q + 1, by omega, by simp, by rw [HB.out]⟩
              case measure => simp [intOf]; omega
          · have t3 : decide (3 ≤ op) = false := by simpa using h3
            have HB := Lib.hid (show bareTo P (q + 1) = false by rw [hsn, t3]; rfl)
            clear hsn hnn h3
            go_wp2
            go_round
            case rel => exact ⟨q + 1, by omega, by simp, by rw [HB.out]⟩
            case measure => simp [intOf]; omega
      · obtain rfl : q = P.length := by omega
        have hbare : bareTo P P.length = validP P 0 0 0 := by rw [bare_eq HLV.out]; unfold bareTo; rw [List.take_of_length_le (Nat.le_refl _)]
        rw [hbare]
        have hv1 := valid_any P (some ⟨g, 0, none⟩) cap 0 0 0 w2.heap.size wc hs3 HP3.out HL3.out.signs
        have HV1 := Lib.hid hv1
        have HV2 := Lib.hid (fun W (hb : Below wc.heap.size wc W) => valid_any P (some ⟨g, 0, none⟩) cap 8 6 4 wc.heap.size W hb.size ((HP3.out.mono hs3).below hb) (HL3.out.up hb).signs)
        clear hv1 hbare
        generalize validP P 0 0 0 = b0 at *
        cases b0 with
        | true =>
          go_wp2_with fail
          refine HV1.out.mono ?_
          rintro e w4 ⟨rfl, hb4⟩
          have hbw4 := below_step hbw3 hb4
          go_wp2_with fail
          refine (HV2.out _ hb4).mono ?_
          rintro e w5 ⟨rfl, hb5⟩
          rw [HLV.out]
          have hbw5 := below_step hbw4 hb5
          clear hb4 hb5
          go_wp2
          go_ret
          exact ⟨rfl, hbw5⟩
        | false =>
          go_wp2_with fail
          refine HV1.out.mono ?_
          rintro e w4 ⟨rfl, hb4⟩
          have hbw4 := below_step hbw3 hb4
          go_wp2_with fail
          refine (HV2.out _ hb4).mono ?_
          rintro e w5 ⟨rfl, hb5⟩
          rw [HLV.out]
          have hbw5 := below_step hbw4 hb5
          clear hb4 hb5
          go_wp2
          go_ret
          exact ⟨rfl, hbw5⟩
end Go.Proofs.YtidgdfjnjgonoaaGreatDoor
