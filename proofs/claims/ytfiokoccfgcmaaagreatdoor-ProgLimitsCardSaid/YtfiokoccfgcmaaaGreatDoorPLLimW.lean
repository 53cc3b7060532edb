/-
  ProgLimits returns true.
-/
import Derived.Test.YtfiokoccfgcmaaaGreatDoorPSan
import Derived.Test.YtfiokoccfgcmaaaGreatDoorPLLimA
import Derived.Deep.DeepCutAuto
import Derived.IntWalk
namespace Go.Proofs.YtfiokoccfgcmaaaGreatDoor
open Go Go.RowKit Go.Sort Go.Lib

/-- The program that the law puts together: the call's own; its memory is the block B0 or lies behind w5; of what w5 has, at most B0 has been turned. -/
structure PP (w5 : World) (B0 : Nat) (W : World) (v : Value) (l : List (Int × Int)) : Prop where
  own : OwnStp 0 W v l
  spot : v.ownBlock = some B0 ∨ ∃ k, w5.heap.size ≤ k ∧ v.ownBlock = some k
  keep : Alters (fun k => k = B0 ∨ w5.heap.size ≤ k) w5 W
theorem PP.below {w5 W W' : World} {B0 : Nat} {v : Value} {l : List (Int × Int)} (h : PP w5 B0 W v l) (hb : Below W.heap.size W W') : PP w5 B0 W' v l :=
  ⟨h.own.below hb, h.spot, h.keep.trans ((Alters.of_below hb : Alters (fun _ => False) W W').mono (fun _ _ h => h.elim))⟩
theorem Prg.altered {w5 W : World} {S : Nat → Prop} {g off : Nat} {l : List (Int × Int)} (h : Prg w5.heap.size w5 (some ⟨g, off, none⟩) l) (ha : Alters S w5 W) (hS : ¬ S g) : Prg w5.heap.size W (some ⟨g, off, none⟩) l := by
  rcases h with h | ⟨b', off', e, hn, hc⟩
  · exact .inl h
  · cases e
    have hk := ha.block g hn hS
    exact .inr ⟨g, off, rfl, hn, fun j hj => ⟨(World.cell?_of_block (a := ⟨g, off + j * 2, none⟩) hk).trans (hc j hj).1, (World.cell?_of_block (a := ⟨g, off + j * 2 + 1, none⟩) hk).trans (hc j hj).2⟩⟩
theorem PP.pushed {w5 W W' : World} {B0 : Nat} {v v' : Value} {l l2 : List (Int × Int)} (h : PP w5 B0 W v l) (ho : OwnStp 0 W' v' (l ++ l2)) (hg : W.grownBy W' v.ownBlock) (h5 : v'.ownBlock = v.ownBlock ∨ v'.ownBlock = some W.heap.size) : PP w5 B0 W' v' (l ++ l2) := by
  have hk := h.keep.size
  refine ⟨ho, ?_, h.keep.trans ((Alters.of_grown hg).mono fun k _ e => ?_)⟩
  · rcases h5 with h5 | h5
    · rw [h5]; exact h.spot
    · exact .inr ⟨_, hk, h5⟩
  · rcases h.spot with hs | ⟨j, hj, hs⟩
    · rw [hs] at e; left; simpa using e
    · rw [hs] at e; right; have : k = j := by simpa using e
      omega
theorem PP.form {w5 W : World} {B0 : Nat} {v : Value} {l : List (Int × Int)} (h : PP w5 B0 W v l) : ∃ g cap, v = .slice (some ⟨g, 0, none⟩) l.length cap := by
  rcases h.own.form with ⟨rfl, _⟩ | ⟨g, cap, e, _⟩
  · rcases h.spot with hs | ⟨_, _, hs⟩ <;> simp [Value.ownBlock] at hs
  · exact ⟨g, cap, e⟩
/-- A new block of one step stands for the program's beginning. -/
theorem PP.lit {w5 W : World} {B0 : Nat} {v : Value} {l : List (Int × Int)} (h : PP w5 B0 W v l) (x y : Int) : PP w5 B0 (W.alloc (.cells #[.int .i64 x, .int .i64 y] 41)) (.slice (some ⟨W.heap.size, 0, none⟩) 1 1) [(x, y)] :=
  ⟨(ownP_lit W W.heap.size x y rfl).mono (Nat.zero_le _), .inr ⟨_, h.keep.size, rfl⟩, (h.below (below_alloc (Below.refl _ _) _)).keep⟩

theorem wpList_pushPP {w : World} {ops : Array Oper} {rest : List Oper} {o : Oper} {a : Act} {Q : Exit → Act → World → Prop} (hgd : o.guard = none) (t : TypeId) (ht : StepsTy t) (s y : Operand)
    (ho : o.op = .call { callee := .builtin .append, args := #[s, y], argTypes := #[t, t] }) (w5 : World) (B0 N : Nat) (v : Value) (l : List (Int × Int)) (hs : a.eval s = v) (h : PP w5 B0 w v l) (hl : l.length < 2000)
    (b off c k : Nat) (l2 : List (Int × Int)) (hy : a.eval y = .slice (some ⟨b, off, none⟩) k c) (hk : k = l2.length) (hl2 : l2.length < 2000) (hx : Prg N w (some ⟨b, off, none⟩) l2)
    (hK : ∀ v' w', PP w5 B0 w' v' (l ++ l2) → wpList Tryz.prog ops Q rest (a.put o.dst v') w') :
    wpList Tryz.prog ops Q (o :: rest) a w :=
  wpList_plain hgd fun K hK' => by
    subst hk
    obtain ⟨v', w', hr, h2, h3, h5⟩ := run_pushP t o.type ht 0 N v l h.own hl (Nat.zero_le _) b off c l2 hl2 hx
    unfold Oper.wp
    simp [execOp, ho, resolve, invoke, builtin, hs, hy, hr, Result.andThen]
    exact hK' _ _ (hK v' w' (h.pushed h2 h3 h5))

theorem steps_len : (stepsQ 80).length = 42 := by decide +kernel

set_option maxRecDepth 100000 in
set_option maxHeartbeats 4000000 in
theorem plim_any (z c0 c1 c2 y : Nat) (hz : z ≤ 255) (h0 : c0 ≤ 255) (h1 : c1 ≤ 255) (h2 : c2 ≤ 255) (hy : y ≤ 255) (w : World) (hL : LibIn w) :
    Calls Tryz.prog 8 #[.int .u8 z, .agg #[.int .u8 c0, .int .u8 c1, .int .u8 c2], .int .u8 y] w fun e w' => e = .returned (.bool true) ∧ Below w.heap.size w w' := by
  have hS8 : ∀ x ∈ stepsQ 80, okStep 8 6 4 x = true := fun x hx => stepsQ_ok hx
  have hSL := steps_len
  have hPL := plain_len
  go_enter Tryz.func8, Tryz.ntmps8
  go_wp2_with fail
  have b0 : Below w.heap.size w (w.alloc (.cells #[.int .u8 c0, .int .u8 c1, .int .u8 c2] 54)) := below_alloc (Below.refl _ _) _
  have x0 : (w.alloc (.cells #[.int .u8 c0, .int .u8 c1, .int .u8 c2] 54)).cell? ⟨w.heap.size, 0, none⟩ = some (.int .u8 c0) := cell_new_at _ _ _ _ _ _ rfl rfl
  have x1 : (w.alloc (.cells #[.int .u8 c0, .int .u8 c1, .int .u8 c2] 54)).cell? ⟨w.heap.size, 1, none⟩ = some (.int .u8 c1) := cell_new_at _ _ _ _ _ _ rfl rfl
  have x2 : (w.alloc (.cells #[.int .u8 c0, .int .u8 c1, .int .u8 c2] 54)).cell? ⟨w.heap.size, 2, none⟩ = some (.int .u8 c2) := cell_new_at _ _ _ _ _ _ rfl rfl
  generalize w.alloc (.cells #[.int .u8 c0, .int .u8 c1, .int .u8 c2] 54) = w0 at *
  refine (sanity_any w0 (hL.up b0)).mono ?_
  rintro e w1 ⟨rfl, hb1⟩
  have hbw := below_step b0 hb1
  replace x0 := cell_keep hb1 x0
  replace x1 := cell_keep hb1 x1
  replace x2 := cell_keep hb1 x2
  go_wp2_with fail
  refine (steps_any w1).mono ?_
  rintro e w2 ⟨v, rfl, hown, hb2⟩
  replace hbw := below_step hbw hb2
  replace x0 := cell_keep hb2 x0
  replace x1 := cell_keep hb2 x1
  replace x2 := cell_keep hb2 x2
  generalize stepsQ 80 = S at *
  obtain ⟨gS, capS, rfl, _, _⟩ := hown.some_of (by omega)
  obtain ⟨_, _, e, hprg⟩ := hown.prg
  cases e
  have HPS := Lib.hid (show Prg w2.heap.size w2 (some ⟨gS, 0, none⟩) S from hprg)
  have HS8 := Lib.hid hS8
  have HPL := Lib.hid hPL
  have hSL2 : S.length ≤ 42 := by omega
  have hSL3 : 1 ≤ S.length := by omega
  clear hown hprg hS8 hPL hSL b0 hb1 hb2
  have hE : Below w2.heap.size w2 (w2.alloc (.cells #[] 41)) := below_alloc (Below.refl _ _) _
  have hE2 : Below (w2.alloc (.cells #[] 41)).heap.size (w2.alloc (.cells #[] 41)) ((w2.alloc (.cells #[] 41)).alloc (.cells #[] 41)) := below_alloc (Below.refl _ _) _
  have hoP := (ownP_empty w2 w2.heap.size rfl).mono (Nat.zero_le _)
  have hoL := ownP_empty (w2.alloc (.cells #[] 41)) (w2.heap.size + 1) (by simp)
  have hsE : (w2.alloc (.cells #[] 41)).heap.size = w2.heap.size + 1 := World.size_alloc _ _
  go_wp2_with fail
  generalize (w2.alloc (.cells #[] 41)).alloc (.cells #[] 41) = w3 at *
  generalize w2.alloc (.cells #[] 41) = wE at *
  have HOP := Lib.hid hoP
  have HSE := Lib.hid hsE
  have hsE2 : w2.heap.size < wE.heap.size := by omega
  clear hoP hsE
  have HE := Lib.hid hE
  go_loopw [10, 11] (fun o i wr => ∃ q : Nat, q ≤ S.length ∧ i = .int .i64 q ∧ OwnStp wE.heap.size wr o (plainTo S q) ∧ Below wE.heap.size wE wr)
    (fun _ i _ => S.length - (intOf i).toNat)
  case atStart => exact ⟨0, Nat.zero_le _, rfl, hoL, hE2⟩
  case round =>
    clear hoL hE2
    obtain ⟨q, hq, rfl, ho, hbr⟩ := hrel
    by_cases hlt : q < S.length
    · obtain ⟨bs, fs, hab, hbN, hop, hnn⟩ := (HPS.out.below ((below_step HE.out hbr))).at_ hlt
      cases hab
      rw [Nat.zero_add] at hop hnn
      have hsn := plainTo_succ S q hlt
      have hln := plainTo_len S q
      generalize S[q]?.getD (0, 0) = x at hop hnn hsn
      obtain ⟨op, n⟩ := x
      dsimp only at hop hnn
      generalize plainTo S q = L at ho hsn hln
      have hpb : plainB (op, n) = (!(op == 6) && (!(op == 7) && !(op == 8))) := rfl
      rw [hpb] at hsn
      have HLN := Lib.hid (show L.length < 2000 by omega)
      clear hpb hln
      by_cases h6 : op = 6
      · have t1 : (op != 6) = false := by simpa using h6
        have t2 : (op == 6) = true := by simpa using h6
        have HR := Lib.hid (show plainTo S (q + 1) = L by rw [hsn, t2]; simp)
        clear hsn h6 t2 hnn
        go_wp2
        go_roundw
        case rel => exact ⟨q + 1, by omega, by simp, by rw [HR.out]; exact ho, hbr⟩
        case measure => simp [intOf]; omega
      have t1 : (op != 6) = true := by simpa using h6
      have s1 : (op == 6) = false := by simpa using h6
      by_cases h7 : op = 7
      · have t2 : (op != 7) = false := by simpa using h7
        have s2 : (op == 7) = true := by simpa using h7
        have HR := Lib.hid (show plainTo S (q + 1) = L by rw [hsn, s2]; simp)
        clear hsn h6 h7 s1 s2 hnn
        go_wp2
        go_roundw
        case rel => exact ⟨q + 1, by omega, by simp, by rw [HR.out]; exact ho, hbr⟩
        case measure => simp [intOf]; omega
      have t2 : (op != 7) = true := by simpa using h7
      have s2 : (op == 7) = false := by simpa using h7
      by_cases h8 : op = 8
      · have t3 : (op != 8) = false := by simpa using h8
        have s3 : (op == 8) = true := by simpa using h8
        have HR := Lib.hid (show plainTo S (q + 1) = L by rw [hsn, s3]; simp)
        clear hsn h6 h7 h8 s1 s2 s3 hnn
        go_wp2
        go_roundw
        case rel => exact ⟨q + 1, by omega, by simp, by rw [HR.out]; exact ho, hbr⟩
        case measure => simp [intOf]; omega
      have t3 : (op != 8) = true := by simpa using h8
      have s3 : (op == 8) = false := by simpa using h8
      have HR := Lib.hid (show plainTo S (q + 1) = L ++ [(op, n)] by rw [hsn, s1, s2, s3]; rfl)
      have hb7 : Below wr.heap.size wr (wr.alloc (.cells #[.int .i64 op, .int .i64 n] 41)) := below_alloc (Below.refl _ _) _
      have HO7 := Lib.hid (ho.below hb7)
      have HBR7 := Lib.hid (below_step hbr hb7)
      have HPX := Lib.hid (prg_lit wr wr.heap.size op n rfl)
      clear hsn h6 h7 h8 s1 s2 s3 ho hb7
      go_wp2_with (at_builtin; go_loud (refine wpList_pushB rfl 23 ty_steps (.tmp 52) (.tmp 57) rfl wE HBR7.out _ _ L rfl HO7.out HLN.out wr.heap.size 0 1 1 [(op, n)] rfl rfl (by simp) HPX.out ?_; intro v8 w8 ho8 hb8 hg8))
      clear hg8
      go_roundw
      case rel => exact ⟨q + 1, by omega, by simp, by rw [HR.out]; exact ho8, hb8⟩
      case measure => simp [intOf]; omega
    · obtain rfl : q = S.length := by omega
      obtain ⟨w5, rfl⟩ : ∃ w5, w5 = wr := ⟨_, rfl⟩
      have hm := HPL.out
      have hokL : ∀ x ∈ plainTo S S.length, okStep 8 6 4 x = true ∧ plainB x = true := fun x hx => plain_ok HS8.out hx
      generalize plainTo S S.length = L at *
      obtain ⟨gb, capb, rfl, hgb, hgl⟩ := ho.some_of (by omega)
      obtain ⟨_, _, e, hprL⟩ := ho.prg
      cases e
      have HPB := Lib.hid (show Prg w5.heap.size w5 (some ⟨gb, 0, none⟩) L from hprL)
      have hP0 : PP w5 w2.heap.size w5 (.slice (some ⟨w2.heap.size, 0, none⟩) 0 0) [] := ⟨OwnStp.below HOP.out hbr, .inl rfl, Alters.refl _ _⟩
      have hL1 : 1 ≤ L.length := by omega
      have hL2 : L.length ≤ 42 := by omega
      have hne : ¬ (gb = w2.heap.size ∨ w5.heap.size ≤ gb) := by omega
      have HOKL := Lib.hid hokL
      have HM := Lib.hid hm
      have hbw5 : Below w.heap.size w w5 := below_step hbw (below_step HE.out hbr)
      have hw25 : w2.heap.size < w5.heap.size := by have := hbr.size; omega
      have hb2w : w.heap.size ≤ w2.heap.size := hbw.size
      have hbl := World.block_lt_of_cell? _ _ x0
      replace x0 := cell_keep (below_step HE.out hbr) x0
      replace x1 := cell_keep (below_step HE.out hbr) x1
      replace x2 := cell_keep (below_step HE.out hbr) x2
      have X0 := Lib.hid x0
      have X1 := Lib.hid x1
      have X2 := Lib.hid x2
      clear hokL hm ho hprL HOP HPL HS8 HSE x0 x1 x2 HPS hbr hbw
      go_wp2_with fail
      go_loopw [9, 12] (fun p i wr => ∃ q : Nat, q ≤ z % 10 ∧ i = .int .i64 q ∧ PP w5 w2.heap.size wr p (partOne L y q))
        (fun _ i _ => z % 10 - (intOf i).toNat)
      case atStart => exact ⟨0, Nat.zero_le _, rfl, hP0⟩
      case round =>
        clear hP0
        obtain ⟨q, hq, rfl, hpp⟩ := hrel
        by_cases hlt : q < z % 10
        · have t1 : decide ((q : Int) < (z : Int) % 10) = true := by
            have : (q : Int) < (z : Int) % 10 := by omega
            simpa using this
          obtain ⟨k, hk⟩ : ∃ k, k = (y + q) % L.length := ⟨_, rfl⟩
          have hkL : k < L.length := by rw [hk]; exact Nat.mod_lt _ (by omega)
          have r1 : ((y : Int) + (q : Int)) % (L.length : Int) = (k : Int) := by rw [hk]; simp
          have r2 : ((y : Int) + (q : Int)).tmod (L.length : Int) = (k : Int) := by rw [← r1]; exact Int.tmod_eq_emod_of_nonneg (by omega)
          have r4 : ¬ (L.length : Int) = 0 := by omega
          have r3 : ((L.length : Int) == 0) = false := beq_eq_false_iff_ne.2 r4
          have hq9 : q ≤ 9 := by omega
          have r5 : 0 ≤ (y : Int) + (q : Int) := by omega
          have r6 : (y : Int) + (q : Int) ≤ 300 := by omega
          have hsn := partOne_succ L y q
          rw [← hk] at hsn
          obtain ⟨bs, fs, hab, hbN, hop, hnn⟩ := (HPB.out.altered hpp.keep hne).at_ hkL
          cases hab
          rw [Nat.zero_add] at hop hnn
          generalize L[k]?.getD (0, 0) = x at hop hnn hsn
          obtain ⟨op, n⟩ := x
          dsimp only at hop hnn
          have hpl : (partOne L y q).length < 2000 := by simp [partOne]; omega
          have HSN := Lib.hid hsn
          have HPLn := Lib.hid hpl
          have HPP := Lib.hid (hpp.below (below_alloc (Below.refl _ _) (.cells #[.int .i64 op, .int .i64 n] 41)))
          have HPX := Lib.hid (prg_lit wr wr.heap.size op n rfl)
          clear hsn hpl hpp hk
          go_wp2_with (at_builtin; go_loud (refine wpList_pushPP rfl 26 ty_prog (.tmp 66) (.tmp 77) rfl w5 w2.heap.size _ _ (partOne L y q) rfl HPP.out HPLn.out wr.heap.size 0 1 1 [(op, n)] rfl rfl (by simp) HPX.out ?_; intro v8 w8 hp8))
          go_roundw
          case rel => exact ⟨q + 1, by omega, by simp, by rw [HSN.out]; exact hp8⟩
          case measure => simp [intOf]; omega
        · have hq9 : q ≤ 9 := by omega
          have t9 : decide ((q : Int) < (z : Int) % 10) = false := by
            have : ¬ (q : Int) < (z : Int) % 10 := by omega
            simpa using this
          clear hlt hq
          have hA : ∀ x ∈ partOne L y q, okStep 8 6 4 x = true ∧ plainB x = true := fun x hx => by
            unfold partOne at hx
            simp only [List.mem_map, List.mem_range] at hx
            obtain ⟨j, _, rfl⟩ := hx
            have hj : (y + j) % L.length < L.length := Nat.mod_lt _ (by omega)
            rw [List.getElem?_eq_getElem hj, Option.getD_some]
            exact HOKL.out _ (List.getElem_mem hj)
          have hAl : (partOne L y q).length = q := by simp [partOne]
          generalize partOne L y q = A at hpp hA hAl
          have HA := Lib.hid hA
          have HAl := Lib.hid hAl
          obtain ⟨t, ht⟩ : ∃ t, t = c0 % 4 := ⟨_, rfl⟩
          obtain ⟨u, hu⟩ : ∃ u, u = c1 % 3 := ⟨_, rfl⟩
          obtain ⟨v, hv⟩ : ∃ v, v = c2 % 3 := ⟨_, rfl⟩
          have ht3 : t ≤ 3 := by omega
          have hu2 : u ≤ 2 := by omega
          have hv2 : v ≤ 2 := by omega
          have T0 : IntKind.i64.wrap ((c0 : Int).tmod 4) = (t : Int) := by rw [Int.tmod_eq_emod_of_nonneg (by omega), IntWalk.i64_in _ (by omega), ht]; omega
          have T1 : IntKind.i64.wrap ((c1 : Int).tmod 3) = (u : Int) := by rw [Int.tmod_eq_emod_of_nonneg (by omega), IntWalk.i64_in _ (by omega), hu]; omega
          have T2 : IntKind.i64.wrap ((c2 : Int).tmod 3) = (v : Int) := by rw [Int.tmod_eq_emod_of_nonneg (by omega), IntWalk.i64_in _ (by omega), hv]; omega
          have hkb := hpp.keep.block w.heap.size (by omega) (by omega)
          have y0 := (World.cell?_of_block (a := ⟨w.heap.size, 0, none⟩) hkb).trans X0.out
          have y1 := (World.cell?_of_block (a := ⟨w.heap.size, 1, none⟩) hkb).trans X1.out
          have y2 := (World.cell?_of_block (a := ⟨w.heap.size, 2, none⟩) hkb).trans X2.out
          have HT := Lib.hid ht
          have HU := Lib.hid hu
          have HV := Lib.hid hv
          clear hA hAl ht hu hv hkb
          go_wp2_with fail
          go_quiet (fail)
          clear y0 y1 y2 T0 T1 T2 t9
          have hpq : PP w5 w2.heap.size (wr.drewN nq) u9 A := hpp.below (below_drewN_ (Below.refl _ _) _)
          generalize wr.drewN nq = w6 at *
          have g0 : (c0 : Int) % 4 = (t : Int) := by rw [HT.out]; omega
          have g1 : (c1 : Int) % 3 = (u : Int) := by rw [HU.out]; omega
          have g2 : (c2 : Int) % 3 = (v : Int) := by rw [HV.out]; omega
          rw [g0, g1, g2]
          have hAL : A.length ≤ 9 := by rw [HAl.out]; omega
          clear g0 g1 g2 hpp
          go_wp2_with fail
          go_loopw [9, 16] (fun p i wr => ∃ q : Nat, q ≤ t ∧ i = .int .i64 q ∧ PP w5 w2.heap.size wr p (A ++ takL q))
            (fun _ i _ => t - (intOf i).toNat)
          case atStart => exact ⟨0, Nat.zero_le _, rfl, by simpa [takL] using hpq⟩
          case round =>
            clear hpq
            obtain ⟨q, hq, rfl, hpp⟩ := hrel
            by_cases hlt : q < t
            · have HSN := Lib.hid (takL_succ q)
              have HPLn := Lib.hid (show (A ++ takL q).length < 2000 by simp [takL]; omega)
              have HPP := Lib.hid (hpp.below (below_alloc (Below.refl _ _) (.cells #[.int .i64 6, .int .i64 0] 41)))
              have HPX := Lib.hid (prg_lit wr wr.heap.size 6 0 rfl)
              clear hpp
              go_wp2_with (at_builtin; go_loud (refine wpList_pushPP rfl 26 ty_prog (.tmp 96) (.tmp 98) rfl w5 w2.heap.size _ _ (A ++ takL q) rfl HPP.out HPLn.out wr.heap.size 0 1 1 [(6, 0)] rfl rfl (by simp) HPX.out ?_; intro v8 w8 hp8))
              go_roundw
              case rel => exact ⟨q + 1, by omega, by simp, by rw [HSN.out, ← List.append_assoc]; exact hp8⟩
              case measure => simp [intOf]; omega
            · obtain rfl : q = t := by omega
              have hTL : (A ++ takL q).length ≤ 12 := by simp [takL]; omega
              go_wp2_with fail
              go_loopw [9, 17] (fun p i wr => ∃ j : Nat, j ≤ u ∧ i = .int .i64 j ∧ PP w5 w2.heap.size wr p (pushL j ++ (A ++ takL q)))
                (fun _ i _ => u - (intOf i).toNat)
              case atStart => exact ⟨0, Nat.zero_le _, rfl, by simpa [pushL] using hpp⟩
              case round =>
                clear hpp
                obtain ⟨j, hj, rfl, hpp⟩ := hrel
                by_cases hlt : j < u
                · obtain ⟨gp, cp, rfl⟩ := hpp.form
                  obtain ⟨_, _, e, hprp⟩ := hpp.own.prg
                  cases e
                  have HSN := Lib.hid (pushL_succ j)
                  have hpl : (pushL j ++ (A ++ takL q)).length ≤ 20 := by simp [pushL, takL] at *; omega
                  have HPLn := Lib.hid (show (pushL j ++ (A ++ takL q)).length < 2000 by omega)
                  have HPP := Lib.hid (hpp.lit 7 (j : Int))
                  have HPX := Lib.hid ((show Prg wr.heap.size wr (some ⟨gp, 0, none⟩) (pushL j ++ (A ++ takL q)) from hprp).below (below_alloc (Below.refl _ _) (.cells #[.int .i64 7, .int .i64 (j : Int)] 41)))
                  generalize hml : (pushL j ++ (A ++ takL q)).length = ml at *
                  have HML := Lib.hid hml
                  clear hpp hprp hml hpl
                  go_wp2_with (at_builtin; go_loud (refine wpList_pushPP rfl 26 ty_prog (.tmp 107) (.tmp 108) rfl w5 w2.heap.size _ _ [(7, (j : Int))] rfl HPP.out (by simp) gp 0 cp ml (pushL j ++ (A ++ takL q)) rfl HML.out.symm (by rw [HML.out]; exact HPLn.out) HPX.out ?_; intro v8 w8 hp8))
                  go_roundw
                  case rel => exact ⟨j + 1, by omega, by simp, by rw [HSN.out]; exact hp8⟩
                  case measure => simp [intOf]; omega
                · obtain rfl : j = u := by omega
                  have hpl : (pushL j ++ (A ++ takL q)).length ≤ 20 := by simp [pushL, takL] at *; omega
                  go_wp2_with fail
                  go_loopw [9, 18] (fun p i wr => ∃ m : Nat, m ≤ v ∧ i = .int .i64 m ∧ PP w5 w2.heap.size wr p (pushL j ++ (A ++ takL q) ++ becL m))
                    (fun _ i _ => v - (intOf i).toNat)
                  case atStart => exact ⟨0, Nat.zero_le _, rfl, by simpa [becL] using hpp⟩
                  case round =>
                    clear hpp
                    obtain ⟨m, hm, rfl, hpp⟩ := hrel
                    by_cases hlt : m < v
                    · have HSN := Lib.hid (becL_succ m)
                      have HPLn := Lib.hid (show (pushL j ++ (A ++ takL q) ++ becL m).length < 2000 by rw [List.length_append]; simp only [becL, List.length_map, List.length_range]; omega)
                      have HPP := Lib.hid (hpp.below (below_alloc (Below.refl _ _) (.cells #[.int .i64 8, .int .i64 (5 - (m : Int))] 41)))
                      have HPX := Lib.hid (prg_lit wr wr.heap.size 8 (5 - (m : Int)) rfl)
                      clear hpp
                      go_wp2_with (at_builtin; go_loud (refine wpList_pushPP rfl 26 ty_prog (.tmp 115) (.tmp 119) rfl w5 w2.heap.size _ _ (pushL j ++ (A ++ takL q) ++ becL m) rfl HPP.out HPLn.out wr.heap.size 0 1 1 [(8, 5 - (m : Int))] rfl rfl (by simp) HPX.out ?_; intro v8 w8 hp8))
                      go_roundw
                      case rel => exact ⟨m + 1, by omega, by simp, by rw [HSN.out, ← List.append_assoc]; exact hp8⟩
                      case measure => simp [intOf]; omega
                    · obtain rfl : m = v := by omega
                      obtain ⟨hval, htk⟩ := limits_ok HA.out q j m (by omega) (by omega)
                      have hlen : (pushL j ++ (A ++ takL q) ++ becL m).length = j + (A.length + q) + m := by simp [pushL, takL, becL]; omega
                      rw [← hlen] at hval
                      have hl100 : (pushL j ++ (A ++ takL q) ++ becL m).length ≤ 100 := by omega
                      clear hlen
                      generalize pushL j ++ (A ++ takL q) ++ becL m = P at *
                      obtain ⟨gp, cp, rfl⟩ := hpp.form
                      obtain ⟨_, _, e, hprp⟩ := hpp.own.prg
                      cases e
                      have hbX : Below w.heap.size w wr := hbw5.trans (hpp.keep.below (Nat.le_trans hb2w (Nat.le_of_lt hw25)) (fun k hk => by omega))
                      have HLX := Lib.hid (hL.up hbX)
                      have HPX := Lib.hid (show Prg wr.heap.size wr (some ⟨gp, 0, none⟩) P from hprp)
                      have HVAL := Lib.hid hval
                      have HTK := Lib.hid htk
                      generalize hn : P.length = n at *
                      have HN := Lib.hid hn
                      generalize hW : (decide (1 ≤ n) && (decide (n ≤ 8) && (decide (q ≤ 2) && (decide (j ≤ 1) && decide (m ≤ 1))))) = b at *
                      have HW := Lib.hid hW
                      clear hval htk hprp hpp hn hW hL hbw5 hbl
                      go_upto_region 26 with (fail)
                      go_cut [19] (fun s wx => s = .bool b ∧ wx = wr)
                      case first =>
                        by_cases k1 : 1 ≤ n
                        · have d1 : decide (1 ≤ (n : Int)) = true := by simp; omega
                          have f1 : decide (1 ≤ n) = true := by simpa using k1
                          by_cases k2 : n ≤ 8
                          · have d2 : decide ((n : Int) ≤ 8) = true := by simp; omega
                            have f2 : decide (n ≤ 8) = true := by simpa using k2
                            by_cases k3 : q ≤ 2
                            · have d3 : decide ((q : Int) ≤ 2) = true := by simp; omega
                              have f3 : decide (q ≤ 2) = true := by simpa using k3
                              by_cases k4 : j ≤ 1
                              · have d4 : decide ((j : Int) ≤ 1) = true := by simp; omega
                                have f4 : decide (j ≤ 1) = true := by simpa using k4
                                by_cases k5 : m ≤ 1
                                · have d5 : decide ((m : Int) ≤ 1) = true := by simp; omega
                                  obtain rfl : true = b := by have := HW.out; rw [f1, f2, f3, f4, show decide (m ≤ 1) = true by simpa using k5] at this; exact this
                                  clear f1 f2 f3 f4
                                  go_wp2
                                  go_meet
                                  case rel => exact ⟨rfl, rfl⟩
                                · have d5 : decide ((m : Int) ≤ 1) = false := by simp; omega
                                  obtain rfl : false = b := by have := HW.out; rw [f1, f2, f3, f4, show decide (m ≤ 1) = false by simpa using k5] at this; exact this
                                  clear f1 f2 f3 f4
                                  go_wp2
                                  go_meet
                                  case rel => exact ⟨rfl, rfl⟩
                              · have d4 : decide ((j : Int) ≤ 1) = false := by simp; omega
                                obtain rfl : false = b := by have := HW.out; rw [f1, f2, f3, show decide (j ≤ 1) = false by simpa using k4] at this; exact this
                                clear f1 f2 f3
                                go_wp2
                                go_meet
                                case rel => exact ⟨rfl, rfl⟩
                            · have d3 : decide ((q : Int) ≤ 2) = false := by simp; omega
                              obtain rfl : false = b := by have := HW.out; rw [f1, f2, show decide (q ≤ 2) = false by simpa using k3] at this; exact this
                              clear f1 f2
                              go_wp2
                              go_meet
                              case rel => exact ⟨rfl, rfl⟩
                          · have d2 : decide ((n : Int) ≤ 8) = false := by simp; omega
                            obtain rfl : false = b := by have := HW.out; rw [f1, show decide (n ≤ 8) = false by simpa using k2] at this; exact this
                            clear f1
                            go_wp2
                            go_meet
                            case rel => exact ⟨rfl, rfl⟩
                        · have d1 : decide (1 ≤ (n : Int)) = false := by simp; omega
                          obtain rfl : false = b := by have := HW.out; rw [show decide (1 ≤ n) = false by simpa using k1] at this; exact this
                          go_wp2
                          go_meet
                          case rel => exact ⟨rfl, rfl⟩
                      case rest =>
                        obtain ⟨rfl, rfl⟩ := hcut
                        have HV1 := Lib.hid (show Calls Tryz.prog 13 #[.slice (some ⟨gp, 0, none⟩) n cp, .int .i64 8, .int .i64 6, .int .i64 4] wc fun e w' => e = .returned (.bool (validP P 8 6 4)) ∧ Below wc.heap.size wc w' by
                          have := valid_any P (some ⟨gp, 0, none⟩) cp 8 6 4 wc.heap.size wc (Nat.le_refl _) HPX.out HLX.out.signs
                          rwa [HN.out] at this)
                        have HPR := Lib.hid (show ∀ W, Below wc.heap.size wc W → Calls Tryz.prog 20 #[.slice (some ⟨gp, 0, none⟩) n cp] W fun e w' => e = .returned (.string ⟨(printS P).toArray⟩) ∧ Below W.heap.size W w' from fun W hb => by
                          have := print_any P (some ⟨gp, 0, none⟩) cp wc.heap.size W hb.size (HPX.out.below hb) (HLX.out.up hb).signs
                          rwa [HN.out] at this)
                        have HTA := Lib.hid (show ∀ W, Below wc.heap.size wc W → Calls Tryz.prog 15 #[.slice (some ⟨gp, 0, none⟩) n cp] W fun e w' => e = .returned (.bool (takesS P)) ∧ Below W.heap.size W w' from fun W hb => by
                          have := takes_any P (some ⟨gp, 0, none⟩) cp wc.heap.size W (by rw [HN.out]; exact hl100) hb.size (HPX.out.below hb)
                          rwa [HN.out] at this)
                        cases b with
                        | true =>
                          have HVB := Lib.hid (show validP P 8 6 4 = true from HVAL.out)
                          have hpn := print_ne HVB.out
                          obtain ⟨str, hstr⟩ : ∃ str, str = printS P := ⟨_, rfl⟩
                          rw [← hstr] at hpn
                          have HPE := Lib.hid hstr.symm
                          have e1 : (str == []) = false := by simpa using hpn
                          have e2 : (str != []) = true := by simpa using hpn
                          have e3 : decide (str = []) = false := by simpa using hpn
                          have e4 : str.isEmpty = false := by simpa using hpn
                          have e5 : (!str.isEmpty) = true := by simpa using hpn
                          clear hstr hpn
                          go_wp2_with fail
                          refine HV1.out.mono ?_
                          rintro e w7 ⟨rfl, hb7⟩
                          rw [HVB.out]
                          have hb7' := below_step hbX hb7
                          go_wp2_with fail
                          refine (HPR.out _ hb7).mono ?_
                          rintro e w8 ⟨rfl, hb8⟩
                          rw [HPE.out]
                          have hb8' := below_step hb7' hb8
                          go_wp2_with fail
                          refine (HTA.out _ (below_step hb7 hb8)).mono ?_
                          rintro e w9 ⟨rfl, hb9⟩
                          rw [HTK.out]
                          have hb9' := below_step hb8' hb9
                          clear hb7 hb8 hb9 hb7' hb8' hbX
                          by_cases hq0 : 0 < q
                          · have dd : decide (0 < (q : Int)) = true := by simp; omega
                            have de : decide (0 < q) = true := by simpa using hq0
                            have dg : (q : Int) > 0 := by omega
                            rw [de]
                            skip
                            go_wp2
                            go_ret
                            exact ⟨rfl, hb9'⟩
                          · have dd : decide (0 < (q : Int)) = false := by simp; omega
                            have de : decide (0 < q) = false := by simpa using hq0
                            have dg : ¬ (q : Int) > 0 := by omega
                            rw [de]
                            skip
                            go_wp2
                            go_ret
                            exact ⟨rfl, hb9'⟩
                        | false =>
                          have HVB := Lib.hid (show validP P 8 6 4 = false from HVAL.out)
                          have HPE := Lib.hid (show printS P = [] by unfold printS; rw [HVB.out]; rfl)
                          go_wp2_with fail
                          refine HV1.out.mono ?_
                          rintro e w7 ⟨rfl, hb7⟩
                          rw [HVB.out]
                          have hb7' := below_step hbX hb7
                          go_wp2_with fail
                          refine (HPR.out _ hb7).mono ?_
                          rintro e w8 ⟨rfl, hb8⟩
                          rw [HPE.out]
                          have hb8' := below_step hb7' hb8
                          go_wp2_with fail
                          refine (HTA.out _ (below_step hb7 hb8)).mono ?_
                          rintro e w9 ⟨rfl, hb9⟩
                          rw [HTK.out]
                          have hb9' := below_step hb8' hb9
                          clear hb7 hb8 hb9 hb7' hb8' hbX
                          by_cases hq0 : 0 < q
                          · have dd : decide (0 < (q : Int)) = true := by simp; omega
                            have de : decide (0 < q) = true := by simpa using hq0
                            have dg : (q : Int) > 0 := by omega
                            rw [de]
                            skip
                            go_wp2
                            go_ret
                            exact ⟨rfl, hb9'⟩
                          · have dd : decide (0 < (q : Int)) = false := by simp; omega
                            have de : decide (0 < q) = false := by simpa using hq0
                            have dg : ¬ (q : Int) > 0 := by omega
                            rw [de]
                            skip
                            go_wp2
                            go_ret
                            exact ⟨rfl, hb9'⟩
end Go.Proofs.YtfiokoccfgcmaaaGreatDoor
