/-
  ProgTurns returns true.
-/
import Derived.Test.YtidgdfjnjgonoaaGreatDoorPLTurnsA
import Derived.Test.YtidgdfjnjgonoaaGreatDoorPLTurnsB
import Derived.Test.YtidgdfjnjgonoaaGreatDoorPTurnM
import Derived.Test.YtidgdfjnjgonoaaGreatDoorPSan
import Derived.Test.YtidgdfjnjgonoaaGreatDoorPLMore
import Derived.Test.YtidgdfjnjgonoaaGreatDoorPushO
import Derived.Deep.DeepCutAuto
namespace Go.Proofs.YtidgdfjnjgonoaaGreatDoor
open Go Go.RowKit Go.Sort Go.Lib

theorem same_t (l : List (Int × Int)) (a a2 : Option Addr) (ct c2 : Nat) (w : World) (hl : l.length ≤ 2000) (hI : Prg w.heap.size w a l) (hI2 : Prg w.heap.size w a2 l) :
    Calls Tryz.prog 24 #[.slice a l.length ct, .slice a2 l.length c2] w fun e w' => e = .returned (.bool true) ∧ Below w.heap.size w w' := by
  refine (same_any l l a a2 ct c2 w.heap.size w hl hI hI2).mono ?_
  rintro e w' ⟨rfl, q, rfl⟩
  exact ⟨by simp, below_drewN_ (Below.refl _ _) _⟩
theorem ints_eight {n gt : Nat} {W : World} {T : List Int} (h : OwnInts n W (.slice (some ⟨gt, 0, none⟩) 8 8) T) : Ints W.heap.size W (some ⟨gt, 0, none⟩) T := by
  obtain ⟨_, _, e, hi⟩ := OwnInts.ints h
  rw [Value.slice.injEq] at e
  obtain ⟨rfl, _, _⟩ := e
  exact hi
def fnd (l : List Int) (t : Int) (j : Nat) : Bool := (l.take j).any fun x => x == t
theorem fnd_succ (l : List Int) (t : Int) (j : Nat) (h : j < l.length) : fnd l t (j + 1) = (fnd l t j || (l[j]?.getD 0 == t)) := by
  unfold fnd
  rw [List.take_add_one, List.any_append, List.getElem?_eq_getElem h]
  simp
theorem fnd_all (l : List Int) (t : Int) (h : t ∈ l) : fnd l t l.length = true := by
  unfold fnd
  rw [List.take_length, List.any_eq_true]
  exact ⟨t, h, by simp⟩
theorem incr_at {l : List Int} (h : Incr l) {j : Nat} (hj : j + 1 < l.length) : l[j]?.getD 0 < l[j + 1]?.getD 0 := by
  rw [List.getElem?_eq_getElem (by omega), List.getElem?_eq_getElem hj, Option.getD_some, Option.getD_some]
  exact List.pairwise_iff_getElem.1 h j (j + 1) (by omega) hj (by omega)
theorem two_at {W : World} {b : Nat} {x y : Value} (h : W.heap[b]? = some (.cells #[x, y] 41)) : W.cell? ⟨b, 0, none⟩ = some x ∧ W.cell? ⟨b, 1, none⟩ = some y ∧ W.frozen? ⟨b, 0, none⟩ = false ∧ W.frozen? ⟨b, 1, none⟩ = false := by
  refine ⟨?_, ?_, ?_, ?_⟩
  · unfold World.cell?; rw [h]; rfl
  · unfold World.cell?; rw [h]; rfl
  · unfold World.frozen?; rw [h]; simp
  · unfold World.frozen?; rw [h]; simp
theorem alters_dr (S : Nat → Prop) (w : World) : Alters S w w.drew := ⟨rfl, rfl, rfl, Nat.le_refl _, fun _ _ _ => rfl⟩
theorem Alters.cellOf {S : Nat → Prop} {W W' : World} (h : Alters S W W') {b o : Nat} {v : Value} (hc : W.cell? ⟨b, o, none⟩ = some v) (hS : ¬ S b) : W'.cell? ⟨b, o, none⟩ = some v :=
  (World.cell?_of_block (a := ⟨b, o, none⟩) (h.block b (World.block_lt_of_cell? _ _ hc) hS)).trans hc

set_option maxRecDepth 100000 in
set_option maxHeartbeats 4000000 in
theorem pturns_any (l : List Nat) (al : Option Addr) (cl N : Nat) (f : Nat → Nat) (hf : ∀ i, f i ≤ 255) (w : World) (hL : LibIn w) (hN : N ≤ w.heap.size) (hI : U8s N w al l) :
    Calls Tryz.prog 6 #[.slice al l.length cl, .agg #[.int .u8 (f 0 : Nat), .int .u8 (f 1 : Nat), .int .u8 (f 2 : Nat), .int .u8 (f 3 : Nat), .int .u8 (f 4 : Nat), .int .u8 (f 5 : Nat), .int .u8 (f 6 : Nat), .int .u8 (f 7 : Nat)]] w fun e w' => e = .returned (.bool true) ∧ Below w.heap.size w w' := by
  have hlA := lib_len l
  have HVP := Lib.hid (lib_valid l)
  have hbx : Below w.heap.size w (w.alloc (.cells #[.int .u8 (f 0 : Nat), .int .u8 (f 1 : Nat), .int .u8 (f 2 : Nat), .int .u8 (f 3 : Nat), .int .u8 (f 4 : Nat), .int .u8 (f 5 : Nat), .int .u8 (f 6 : Nat), .int .u8 (f 7 : Nat)] 50)) := below_alloc (Below.refl _ _) _
  have hcx : ∀ i, i < 8 → (w.alloc (.cells #[.int .u8 (f 0 : Nat), .int .u8 (f 1 : Nat), .int .u8 (f 2 : Nat), .int .u8 (f 3 : Nat), .int .u8 (f 4 : Nat), .int .u8 (f 5 : Nat), .int .u8 (f 6 : Nat), .int .u8 (f 7 : Nat)] 50)).cell? ⟨w.heap.size, i, none⟩ = some (.int .u8 (f i : Nat)) := by
    intro i hi
    have : i = 0 ∨ i = 1 ∨ i = 2 ∨ i = 3 ∨ i = 4 ∨ i = 5 ∨ i = 6 ∨ i = 7 := by omega
    rcases this with rfl | rfl | rfl | rfl | rfl | rfl | rfl | rfl <;> exact cell_new_at _ _ _ _ _ _ rfl rfl
  have HF := Lib.hid hf
  have HCX := Lib.hid hcx
  have HBX := Lib.hid hbx
  clear hcx hbx hf
  go_enter Tryz.func6, Tryz.ntmps6
  go_wp2_with fail
  have b0 := HBX.out
  generalize w.alloc (.cells #[.int .u8 (f 0 : Nat), .int .u8 (f 1 : Nat), .int .u8 (f 2 : Nat), .int .u8 (f 3 : Nat), .int .u8 (f 4 : Nat), .int .u8 (f 5 : Nat), .int .u8 (f 6 : Nat), .int .u8 (f 7 : Nat)] 50) = w0 at *
  refine (sanity_any w0 (hL.up b0)).mono ?_
  rintro e w1 ⟨rfl, hb1⟩
  have hbw := below_step b0 hb1
  have HC1 := Lib.hid (fun i hi => cell_keep hb1 (HCX.out i hi))
  have hl0 : w.heap.size < w1.heap.size := World.block_lt_of_cell? _ _ (HC1.out 0 (by omega))
  have HL1 := Lib.hid (hL.up hbw)
  have HI1 := Lib.hid (hI.up hN hbw)
  have hN1 := Nat.le_trans hN hbw.size
  clear b0 hb1 hL hI HBX HCX
  go_upto_region 2 with (fail)
  refine turns_r2 l al cl N w.heap.size w1 _ _ _ _ _ _ _ _ _ _ _ _ _ _ _ _ _ _ _ _ _ _ _ _ _ _ _ _ _ _ _ _ _ _ _ _ _ _ _ _ _ _ _ _ _ _ _ _ _ _ _ _ _ _ _ _ _ _ _ _ _ _ _ _ _ _ _ _ _ _ _ _ _ _ _ _ _ _ _ _ _ _ _ _ _ _ _ _ _ _ _ _ _ _ _ _ _ _ _ _ _ _ _ _ _ _ _ _ _ _ _ _ _ _ _ _ _ _ _ _ _ _ _ _ _ _ _ _ _ _ _ _ _ _ _ _ _ _ _ _ _ _ _ _ _ _ _ _ _ _ _ _ _ _ _ _ _ _ _ _ _ _ _ _ _ _ _ _ _ _ _ _ _ _ _ _ _ _ _ _ _ _ _ hN1 HI1 (Lib.hid ?_)
  intro s21 s22 s23 s24 g cap gt gb w2 hp ht hbk hg hgt hgb hne1 hne2 hne3 hb2
  have HP2 := Lib.hid hp
  have HT2 := Lib.hid ht
  have HK2 := Lib.hid hbk
  have HC2 := Lib.hid (fun i hi => cell_keep hb2 (HC1.out i hi))
  have HB2 := Lib.hid hb2
  have hbw2 := below_step hbw hb2
  have hz2 := hb2.size
  generalize libS l = P at *
  clear hp ht hbk hb2 HC1 HI1
  go_wp2_with fail
  go_loopw [9] (fun iv wr => ∃ (q : Nat) (T : List Int), q ≤ 8 ∧ iv = .int .i64 q ∧ Pm T ∧ OwnInts w1.heap.size wr (.slice (some ⟨gt, 0, none⟩) 8 8) T ∧ Alters (fun k => k = gt) w2 wr)
    (fun iv _ => 8 - (intOf iv).toNat)
  case atStart => exact ⟨0, idL, by omega, rfl, Pm.id, HT2.out, Alters.refl _ _⟩
  case round =>
    obtain ⟨q, T, hq, rfl, hpm, hoT, haT⟩ := hrel
    by_cases hlt : q < 8
    · have hfq := HF.out q
      have hcq := haT.cellOf (HC2.out q hlt) (by omega)
      have hwr : w.heap.size < wr.heap.size := World.block_lt_of_cell? _ _ hcq
      obtain ⟨k, hk0, hk8⟩ : ∃ k : Nat, (f q : Int) % 8 = (k : Int) ∧ k < 8 := ⟨f q % 8, by simp, Nat.mod_lt _ (by omega)⟩
      have hlT := hpm.len
      obtain ⟨c0, f0⟩ := hoT.cellAt (j := q) (by omega)
      obtain ⟨c1, f1⟩ := hoT.cellAt (j := k) (by omega)
      have hsw := hpm.swap hlt hk8
      have hoS := (((hoT.alters (S := fun _ => False) (alters_dr _ wr) (fun _ h => h.elim)).set q (T[k]?.getD 0)).set k (T[q]?.getD 0))
      have haS : Alters (fun k => k = gt) wr ((wr.drew.setCell ⟨gt, q, none⟩ (.int .i64 (T[k]?.getD 0))).setCell ⟨gt, k, none⟩ (.int .i64 (T[q]?.getD 0))) := ((alters_dr _ wr).trans (alters_cell _ gt q _)).trans (alters_cell _ gt k _)
      have HOS := Lib.hid hoS
      have HAS := Lib.hid (haT.trans haS)
      have HSW := Lib.hid hsw
      generalize T[k]?.getD 0 = y at *
      generalize T[q]?.getD 0 = x at *
      generalize f q = z at *
      have hlt' : (q : Int) < 8 := by omega
      clear hoS haS hsw hoT haT hpm hlT
      go_upto_region 7 with (fail)
      rw [hk0]
      refine turns_r7 gt q k x y wr _ _ _ _ _ _ _ _ _ _ _ _ _ _ _ _ _ _ _ _ _ _ _ _ _ _ _ _ _ _ _ _ _ _ _ _ _ _ _ _ _ _ _ _ _ _ _ _ _ _ _ _ _ _ _ _ _ _ _ _ _ _ _ _ _ _ _ _ _ _ _ _ _ _ _ _ _ _ _ _ _ _ _ _ _ _ _ _ _ _ _ _ _ _ _ _ _ _ _ _ _ _ _ _ _ _ _ _ _ _ _ _ _ _ _ _ _ _ _ _ _ _ _ _ _ _ _ _ _ _ _ _ _ _ _ _ _ _ _ _ _ _ _ _ _ _ _ _ _ _ _ _ _ _ _ _ _ _ _ _ _ _ _ _ _ _ _ _ _ _ _ _ _ _ _ _ _ _ _ _ _ _ hlt hk8 c0 c1 f0 f1 (Lib.hid ?_)
      intro s34 s35 s36 s37 s38 s39 s40 s41 s42 s43 s44 s45 s46 s47 w7 hw7
      subst hw7
      have haN := HAS.out
      clear c0 c1 f0 f1
      go_wp2
      go_roundw
      case rel => exact ⟨q + 1, _, by omega, by simp, HSW.out, HOS.out, HAS.out⟩
      case measure => simp [intOf]; omega
    · obtain rfl : q = 8 := by omega
      obtain ⟨w3, rfl⟩ : ∃ w3, w3 = wr := ⟨_, rfl⟩
      have HPM := Lib.hid hpm
      have HT3 := Lib.hid hoT
      have hs3 := haT.size
      have HP3 := Lib.hid (show Prg w2.heap.size w3 (some ⟨g, 0, none⟩) P from HP2.out.turnedBy haT hne1)
      have HK3 := Lib.hid (HK2.out.alters haT (fun k hk e => by
        have hk' : k = gt := hk
        have : k = gb := by simpa [Value.ownBlock] using e
        omega))
      have HA13 := Lib.hid (HB2.out.trans (haT.below (n := w1.heap.size) hz2 (fun k hk => by
        have hk' : k = gt := hk
        omega)))
      have hT8 := hpm.len
      clear hpm hoT haT HP2 HK2 HT2 HC2 HF hT8
      go_wp2_with fail
      go_loopw [11] (fun iv wr => ∃ q : Nat, q ≤ 8 ∧ iv = .int .i64 q ∧ OwnInts w1.heap.size wr (.slice (some ⟨gb, 0, none⟩) 8 8) (backTo T q) ∧ Alters (fun k => k = gb) w3 wr)
        (fun iv _ => 8 - (intOf iv).toNat)
      case atStart => exact ⟨0, by omega, rfl, HK3.out, Alters.refl _ _⟩
      case round =>
        obtain ⟨q, hq, rfl, hoB, haB⟩ := hrel
        have HT4 := Lib.hid (HT3.out.alters haB (fun k hk e => by
          have hk' : k = gb := hk
          have : k = gt := by simpa [Value.ownBlock] using e
          omega))
        by_cases hlt : q < 8
        · have hlT := HPM.out.len
          obtain ⟨c0, f0⟩ := HT4.out.cellAt (j := q) (by omega)
          have hbt := HPM.out.bound hlt
          have hbs : backTo T (q + 1) = (backTo T q).set (T[q]?.getD 0).toNat (q : Int) := rfl
          have hlB := backTo_len T q
          generalize T[q]?.getD 0 = y at *
          obtain ⟨t, rfl⟩ := Int.eq_ofNat_of_zero_le hbt.1
          rw [Int.toNat_natCast] at hbs
          obtain ⟨c1, f1⟩ := hoB.cellAt (j := t) (by omega)
          have HS := Lib.hid (hoB.set t (q : Int))
          have HAS := Lib.hid (haB.trans (alters_cell _ gb t (.int .i64 (q : Int))))
          have HBS := Lib.hid hbs
          have ht8 : (t : Int) < 8 := hbt.2
          have hlt' : (q : Int) < 8 := by omega
          generalize (backTo T q)[t]?.getD 0 = z at *
          clear hoB haB hbs hlT hlB hbt
          go_wp2
          go_roundw
          case rel => exact ⟨q + 1, by omega, by simp, by rw [HBS.out]; exact HS.out, HAS.out⟩
          case measure => simp [intOf]; omega
        · obtain rfl : q = 8 := by omega
          obtain ⟨w4, rfl⟩ : ∃ w4, w4 = wr := ⟨_, rfl⟩
          have HP4 := Lib.hid (((HP3.out.mono hs3).turnedBy haB hne2).mono haB.size)
          have HTI := Lib.hid (ints_eight HT4.out)
          have HBI := Lib.hid (ints_eight hoB)
          have hA14 := HA13.out.trans (haB.below (n := w1.heap.size) (by omega) (fun k hk => by
            have hk' : k = gb := hk
            omega))
          have HL4 := Lib.hid (HL1.out.up hA14)
          have hbw4 := below_step hbw hA14
          have hl8T := HPM.out.len
          have hl8B := backTo_len T 8
          have hTB := turn_back HPM.out HVP.out
          have htk := takes_turn T P
          have hvt := valid_turn HPM.out HVP.out
          have hdt := dirs_turn HPM.out HVP.out
          have hat : ∀ j, j < P.length → (P.map (turn1 T))[j]?.getD (0, 0) = turn1 T (P[j]?.getD (0, 0)) := fun j hj => by simp [hj]
          have hPL : (P.map (turn1 T)).length = P.length := by simp
          have KT := turned_any T (some ⟨gt, 0, none⟩) 8 P (some ⟨g, 0, none⟩) cap w4.heap.size w4 (by omega) (Nat.le_refl _) HP4.out HTI.out HL4.out.signs
          rw [hl8T] at KT
          have HKT := Lib.hid KT
          clear KT hA14 HA13 haB hoB HT4 HP3 HK3 HT3
          generalize backTo T 8 = B at *
          generalize P.map (turn1 T) = PT at *
          have HTB := Lib.hid hTB
          have HTK := Lib.hid htk
          have HVT := Lib.hid hvt
          have HDT := Lib.hid hdt
          have HAT := Lib.hid hat
          have HPL := Lib.hid hPL
          have HLB := Lib.hid hl8B
          clear hTB htk hvt hdt hat hPL hl8T hl8B
          go_wp2_with fail
          refine HKT.out.mono ?_
          rintro e w5 ⟨v5, rfl, ho5, hb5⟩
          have hfo := ho5.some_of (by have := HPL.out; omega)
          rw [HPL.out] at hfo
          obtain ⟨g12, c12, rfl, _, _⟩ := hfo
          obtain ⟨_, _, e, hpr⟩ := ho5.prg
          rw [Value.slice.injEq] at e
          obtain ⟨rfl, hxx, rfl⟩ := e
          clear hxx
          have HQ5 := Lib.hid hpr
          have HP5 := Lib.hid (HP4.out.later hb5)
          have HT5 := Lib.hid (HTI.out.later hb5)
          have HB5 := Lib.hid (HBI.out.later hb5)
          have HL5 := Lib.hid (HL4.out.up hb5)
          have hbw5 := below_step hbw4 hb5
          clear hpr ho5 hb5 HKT HP4 HTI HBI HL4 hbw4
          have K1 : Hid (∀ W, Below w5.heap.size w5 W → Calls Tryz.prog 26 #[.slice (some ⟨g12, 0, none⟩) P.length c12, .slice (some ⟨gb, 0, none⟩) 8 8] W fun e w' => ∃ a c, e = .returned (.slice a P.length c) ∧ Prg w'.heap.size w' a P ∧ Below W.heap.size W w') := Lib.hid (fun W h => by
            have k := turned_any B (some ⟨gb, 0, none⟩) 8 PT (some ⟨g12, 0, none⟩) c12 W.heap.size W (by have := HPL.out; omega) (Nat.le_refl _) (HQ5.out.later h) (HB5.out.later h) (HL5.out.up h).signs
            rw [HLB.out, HPL.out, HTB.out] at k
            refine k.mono ?_
            rintro e w' ⟨v, rfl, ho, hb⟩
            obtain ⟨a, c, rfl, hp⟩ := ho.prg
            exact ⟨a, c, rfl, hp, hb⟩)
          have K3 : Hid (∀ W, Below w5.heap.size w5 W → Calls Tryz.prog 15 #[.slice (some ⟨g12, 0, none⟩) P.length c12] W fun e w' => e = .returned (.bool (takesS P)) ∧ Below W.heap.size W w') := Lib.hid (fun W h => by
            have k := takes_any PT (some ⟨g12, 0, none⟩) c12 W.heap.size W (by have := HPL.out; omega) (Nat.le_refl _) (HQ5.out.later h)
            rw [HPL.out, HTK.out] at k
            exact k)
          have K4 := Lib.hid (fun W (h : Below w5.heap.size w5 W) => takes_any P (some ⟨g, 0, none⟩) cap W.heap.size W (by omega) (Nat.le_refl _) (HP5.out.later h))
          have K5 : Hid (∀ W, Below w5.heap.size w5 W → Calls Tryz.prog 13 #[.slice (some ⟨g12, 0, none⟩) P.length c12, .int .i64 8, .int .i64 6, .int .i64 4] W fun e w' => e = .returned (.bool true) ∧ Below W.heap.size W w') := Lib.hid (fun W h => by
            have k := valid_any PT (some ⟨g12, 0, none⟩) c12 8 6 4 W.heap.size W (Nat.le_refl _) (HQ5.out.later h) (HL5.out.up h).signs
            rw [HPL.out, HVT.out] at k
            exact k)
          generalize takesS P = tk at *
          have h0 : Below w5.heap.size w5 w5 := Below.refl _ _
          go_wp2_with fail
          refine (K1.out _ h0).mono ?_
          rintro e v1 ⟨a1, c1, rfl, hp1, k1⟩
          have h1 := below_step h0 k1
          have HP1 := Lib.hid hp1
          have hPs : P.length ≤ 2000 := by omega
          clear hp1 h0 k1
          go_wp2_with fail
          refine (same_t P a1 (some ⟨g, 0, none⟩) c1 cap v1 hPs HP1.out (HP5.out.later h1)).mono ?_
          rintro e v2 ⟨rfl, k2⟩
          have h2 := below_step h1 k2
          clear k2 h1
          go_wp2_with fail
          refine (K3.out _ h2).mono ?_
          rintro e v3 ⟨rfl, k3⟩
          have h3 := below_step h2 k3
          clear k3 h2
          go_wp2_with fail
          refine (K4.out _ h3).mono ?_
          rintro e v4 ⟨rfl, k4⟩
          have h4 := below_step h3 k4
          clear k4 h3
          go_wp2_with fail
          refine (K5.out _ h4).mono ?_
          rintro e v5 ⟨rfl, k5⟩
          have h5 := below_step h4 k5
          clear k5 h4 K1 K3 K4 K5
          go_wp2_with fail
          go_loopw [13] (fun iv wr => ∃ q : Nat, q ≤ P.length ∧ iv = .int .i64 q ∧ Below w5.heap.size w5 wr) (fun iv _ => P.length - (intOf iv).toNat)
          case atStart => exact ⟨0, Nat.zero_le _, rfl, h5⟩
          case round =>
            clear h5
            obtain ⟨q, hq5, rfl, hbr⟩ := hrel
            by_cases hlt5 : q < P.length
            · obtain ⟨bp, fp, hab, hbN, hop, hnn⟩ := (HP5.out.later hbr).at_ hlt5
              cases hab
              obtain ⟨bq, fq, hab, hbN2, hop2, hnn2⟩ := (HQ5.out.later hbr).at_ (j := q) (by have := HPL.out; omega)
              cases hab
              have hat := HAT.out q hlt5
              have hok := okAll HVP.out (P[q]?.getD (0, 0)) (by rw [List.getElem?_eq_getElem hlt5]; exact List.getElem_mem hlt5)
              rw [hat] at hop2 hnn2
              generalize P[q]?.getD (0, 0) = x at hop hnn hop2 hnn2 hok
              obtain ⟨op, n⟩ := x
              have HOK := Lib.hid hok
              rw [turn1_op] at hop2
              rw [Nat.zero_add] at hop hnn hop2 hnn2
              dsimp only at hop hnn hop2
              clear hat hok
              have hb6 : Below wr.heap.size wr (wr.alloc (.cells #[.int .i64 op, .int .i64 n] 41)) := below_alloc (Below.refl _ _) _
              have hh6 : (wr.alloc (.cells #[.int .i64 op, .int .i64 n] 41)).heap[wr.heap.size]? = some (.cells #[.int .i64 op, .int .i64 n] 41) := World.alloc_heap_new _ _
              have hs6 : wr.heap.size < (wr.alloc (.cells #[.int .i64 op, .int .i64 n] 41)).heap.size := by rw [World.size_alloc]; omega
              go_wp2_with fail
              generalize wr.alloc (.cells #[.int .i64 op, .int .i64 n] 41) = w6 at *
              refine (leads_any op n w6).mono ?_
              rintro e w7 ⟨rfl, hb7⟩
              have hb67 := below_step hb6 hb7
              have hh7 := (hb7.block wr.heap.size hs6).trans hh6
              obtain ⟨e0, e1, f0, f1⟩ := two_at hh7
              replace hop := cell_keep hb67 hop
              replace hnn := cell_keep hb67 hnn
              replace hop2 := cell_keep hb67 hop2
              replace hnn2 := cell_keep hb67 hnn2
              have hbr7 := below_step hbr hb67
              have hT7 := HT5.out.later hbr7
              have hs7 : wr.heap.size < w7.heap.size := World.block_lt_of_cell? _ _ e0
              have HW5 := Lib.hid hbr.size
              clear hb6 hb7 hh6 hs6 hh7 hbr
              have hq : ∀ z W, (binOp .neq 41 (.agg #[.int .i64 op, .int .i64 z]) (.agg #[.int .i64 op, .int .i64 z])).run Tryz.prog W = .ok (.bool false) W := fun z W => by rw [neq_step]; simp
              have hg2 : ∀ z W, (eqGuard .neq 41 (.tmp 114) (.tmp 115) (.agg #[.int .i64 op, .int .i64 z]) (.agg #[.int .i64 op, .int .i64 z])).run Tryz.prog W = .ok () W := fun z W => run_eqGuard_agg W _ _ _ _ _ _ step_guard
              cases hd : hasDirB op with
              | true =>
                obtain ⟨hn0, hn8⟩ := ok_dir HOK.out hd
                dsimp only at hn0 hn8
                rw [turn1_dir HPM.out.len HOK.out hd] at hnn2
                dsimp only at hnn2
                obtain ⟨m, rfl⟩ := Int.eq_ofNat_of_zero_le hn0
                have hm8 : m < 8 := by omega
                rw [Int.toNat_natCast] at hnn2
                obtain ⟨bt, ft, hab, hbT, hcT⟩ := hT7.at_ (j := m) (by have := HPM.out.len; omega)
                cases hab
                rw [Nat.zero_add] at hcT
                generalize T[m]?.getD 0 = z at *
                have e1' : (w7.setCell ⟨wr.heap.size, 1, none⟩ (.int .i64 z)).cell? ⟨wr.heap.size, 1, none⟩ = some (.int .i64 z) := World.cell?_setCell_same _ _ _ e1
                have e0' : (w7.setCell ⟨wr.heap.size, 1, none⟩ (.int .i64 z)).cell? ⟨wr.heap.size, 0, none⟩ = some (.int .i64 op) := by
                  rw [World.cell?_setCell_other _ _ _ _ (fun h => by have := congrArg Addr.off h; simp at this)]; exact e0
                have d0' : (w7.setCell ⟨wr.heap.size, 1, none⟩ (.int .i64 z)).cell? ⟨g12, q * 2, none⟩ = some (.int .i64 op) := by
                  rw [World.cell?_setCell_other _ _ _ _ (fun h => by have := congrArg Addr.block h; simp at this; omega)]; exact hop2
                have d1' : (w7.setCell ⟨wr.heap.size, 1, none⟩ (.int .i64 z)).cell? ⟨g12, q * 2 + 1, none⟩ = some (.int .i64 z) := by
                  rw [World.cell?_setCell_other _ _ _ _ (fun h => by have := congrArg Addr.block h; simp at this; omega)]; exact hnn2
                have hb8 : Below w5.heap.size w5 (w7.setCell ⟨wr.heap.size, 1, none⟩ (.int .i64 z)) := Below.setCell hbr7 (by show w5.heap.size ≤ wr.heap.size; exact HW5.out) _
                have hs8 : wr.heap.size < (w7.setCell ⟨wr.heap.size, 1, none⟩ (.int .i64 z)).heap.size := World.block_lt_of_cell? _ _ e0'
                have hg8 : g12 < (w7.setCell ⟨wr.heap.size, 1, none⟩ (.int .i64 z)).heap.size := World.block_lt_of_cell? _ _ d0'
                have hqz := hq z
                have hgz := hg2 z
                have HD := Lib.hid hd
                have hm8' : (m : Int) < 8 := by omega
                have hg7 : g < w7.heap.size := by have := hb67.size; omega
                clear hq hg2 hd hn8 hop2 hnn2 hT7
                go_upto_region 21 with (fail)
                clear e0 e1 f0 f1 hop hnn hcT hbr7
                generalize w7.setCell ⟨wr.heap.size, 1, none⟩ (.int .i64 z) = w8 at *
                go_quiet (fail)
                go_wp2
                go_roundw
                case rel => exact ⟨q + 1, by omega, by simp, by first | exact hb8 | exact below_drewN_ hb8 _⟩
                case measure => simp [intOf]; omega
              | false =>
                rw [turn1_not hd] at hnn2
                dsimp only at hnn2
                have hqz := hq n
                have hgz := hg2 n
                have hg7 : g < w7.heap.size := by have := hb67.size; omega
                have hg8 : g12 < w7.heap.size := World.block_lt_of_cell? _ _ hop2
                have HD := Lib.hid hd
                clear hq hg2 hd hT7
                go_upto_region 21 with (fail)
                clear hop hnn f0 f1
                go_quiet (fail)
                go_wp2
                go_roundw
                case rel => exact ⟨q + 1, by omega, by simp, by first | exact hbr7 | exact below_drewN_ hbr7 _⟩
                case measure => simp [intOf]; omega
            · obtain rfl : q = P.length := by omega
              have KD : Hid (∀ W, Below w5.heap.size w5 W → Calls Tryz.prog 18 #[.slice (some ⟨g12, 0, none⟩) P.length c12] W fun e w' => ∃ v, e = .returned v ∧ OwnInts W.heap.size w' v (dirsS PT) ∧ Below W.heap.size W w') := Lib.hid (fun W h => by
                have k := dirs_any PT (some ⟨g12, 0, none⟩) c12 W.heap.size W (by have := HPL.out; omega) (Nat.le_refl _) (HQ5.out.later h) (HL5.out.up h).signs
                rw [HPL.out] at k
                exact k)
              have KE := Lib.hid (fun W (h : Below w5.heap.size w5 W) => dirs_any P (some ⟨g, 0, none⟩) cap W.heap.size W (by omega) (Nat.le_refl _) (HP5.out.later h) (HL5.out.up h).signs)
              have HIN := Lib.hid (dirs_ok PT).1
              have hdl := HDT.out.1
              have HMM := Lib.hid HDT.out.2
              have hdle : (dirsS P).length ≤ 8 := by have := dirsS_len P; omega
              generalize dirsS PT = D2 at *
              generalize dirsS P = D1 at *
              have HDL := Lib.hid hdl
              clear hdl HDT
              go_wp2_with fail
              refine (KE.out _ hbr).mono ?_
              rintro e wa ⟨va, rfl, oa, hba⟩
              obtain ⟨aa, ca, rfl, ia⟩ := OwnInts.ints oa
              have hba2 := below_step hbr hba
              go_wp2_with fail
              refine (KD.out _ hba2).mono ?_
              rintro e wb ⟨vb, rfl, ob, hbb⟩
              obtain ⟨ab, cb, rfl, ib⟩ := OwnInts.ints ob
              rw [HDL.out]
              have IA := Lib.hid (ia.later hbb)
              have IB := Lib.hid ib
              have hb5 := below_step hba2 hbb
              have IT := Lib.hid (HT5.out.later hb5)
              have hbwb := below_step hbw5 hb5
              clear oa ob ia ib hba hbb hba2 hbr KD KE
              go_wp2_with fail
              go_loopw [17] (fun iv wr => ∃ q : Nat, q ≤ D1.length ∧ iv = .int .i64 q ∧ ∃ m, wr = wb.drewN m) (fun iv _ => D1.length - (intOf iv).toNat)
              case atStart => exact ⟨0, Nat.zero_le _, rfl, 0, rfl⟩
              case round =>
                obtain ⟨q, hqd, rfl, m0, rfl⟩ := hrel
                by_cases hltd : q < D1.length
                · obtain ⟨ba, fa, haa, hbA, hcA⟩ := IA.out.at_ hltd
                  subst haa
                  obtain ⟨hd0, hd8, hmem⟩ := HMM.out (D1[q]?.getD 0) (by rw [List.getElem?_eq_getElem hltd]; exact List.getElem_mem hltd)
                  generalize D1[q]?.getD 0 = d at hcA hd0 hd8 hmem
                  obtain ⟨dn, rfl⟩ := Int.eq_ofNat_of_zero_le hd0
                  have hdn8 : dn < 8 := by omega
                  rw [Int.toNat_natCast] at hmem
                  obtain ⟨bt, ft, hab, hbT, hcT⟩ := IT.out.at_ (j := dn) (by have := HPM.out.len; omega)
                  cases hab
                  rw [Nat.zero_add] at hcT
                  generalize T[dn]?.getD 0 = tz at hcT hmem
                  have hfa := fnd_all D2 tz hmem
                  rw [HDL.out] at hfa
                  have HFA := Lib.hid hfa
                  have HWQ := Lib.hid (IntWalk.i64_in (q : Int) (by omega))
                  clear hfa hmem
                  have hpre : (q = 0) ∨ ∃ j, q = j + 1 := by
                    cases q with
                    | zero => exact .inl rfl
                    | succ j => exact .inr ⟨j, rfl⟩
                  go_upto_region 29 with (fail)
                  go_cut [145] (fun sv wx => sv = .bool false ∧ ∃ m, wx = wb.drewN m)
                  case first =>
                    rcases hpre with rfl | ⟨j, rfl⟩
                    · have t0 : decide ((0 : Int) < ((0 : Nat) : Int)) = false := by simp
                      go_quiet (fail)
                      (try go_wp2)
                      go_meet
                      case rel => exact ⟨rfl, _, by first | exact rfl | exact World.drewN_drewN _ _ _⟩
                    · obtain ⟨b2, f2, hab2, hb2N, hcJ⟩ := IB.out.at_ (j := j) (by have := HDL.out; omega)
                      subst hab2
                      obtain ⟨b3, f3, hab3, _, hcK⟩ := IB.out.at_ (j := j + 1) (by have := HDL.out; omega)
                      cases hab3
                      have hlt2 := incr_at HIN.out (j := j) (by have := HDL.out; omega)
                      generalize D2[j]?.getD 0 = y1 at hcJ hlt2
                      generalize D2[j + 1]?.getD 0 = y2 at hcK hlt2
                      have t1 : decide (y2 ≤ y1) = false := by simp; omega
                      have t2 : decide ((0 : Int) < (j : Int) + 1) = true := by first | (simp; done) | (simp; omega)
                      have w1' : IntKind.i64.wrap (j : Int) = (j : Int) := IntWalk.i64_in _ (by omega)
                      have w2' : IntKind.i64.wrap ((j : Int) + 1 - 1) = (j : Int) := by rw [IntWalk.i64_in _ (by omega)]; omega
                      have b1' : (j : Int) + 1 < (D1.length : Int) := by omega
                      have b2' : (j : Int) < (D1.length : Int) := by omega
                      have b3' : (0 : Int) ≤ (j : Int) + 1 := by omega
                      go_quiet (fail)
                      (try go_wp2)
                      go_meet
                      case rel => exact ⟨rfl, _, by first | exact rfl | exact World.drewN_drewN _ _ _⟩
                  case rest =>
                    obtain ⟨rfl, m1, rfl⟩ := hcut
                    clear hpre
                    go_wp2_with fail
                    go_loopw [18, 19] (fun fv kv wr => ∃ k : Nat, k ≤ D1.length ∧ kv = .int .i64 k ∧ fv = .bool (fnd D2 tz k) ∧ ∃ m, wr = wb.drewN m) (fun _ kv _ => D1.length - (intOf kv).toNat)
                    case atStart => exact ⟨0, Nat.zero_le _, rfl, rfl, _, rfl⟩
                    case round =>
                      obtain ⟨k, hk, rfl, rfl, m2, rfl⟩ := hrel
                      by_cases hk2 : k < D1.length
                      · obtain ⟨b2, f2, hab2, hb2N, hcJ⟩ := IB.out.at_ (j := k) (by have := HDL.out; omega)
                        subst hab2
                        have hsn := fnd_succ D2 tz k (by have := HDL.out; omega)
                        generalize D2[k]?.getD 0 = y at hcJ hsn
                        have hdn8' : (dn : Int) < 8 := by omega
                        have hq' : (q : Int) < (D1.length : Int) := by omega
                        have hk' : (k : Int) < (D1.length : Int) := by omega
                        cases hfn : fnd D2 tz k with
                        | true =>
                          have HS := Lib.hid (show fnd D2 tz (k + 1) = true by rw [hsn, hfn]; rfl)
                          clear hsn hfn
                          go_wp2_with fail
                          go_quiet (fail)
                          go_wp2
                          go_roundw
                          case rel => exact ⟨k + 1, by omega, by simp, by rw [HS.out], _, by first | exact rfl | exact World.drewN_drewN _ _ _⟩
                          case measure => simp [intOf]; omega
                        | false =>
                          have u1 : decide ((0 : Int) ≤ (dn : Int)) = true := by first | (simp; done) | (simp; omega)
                          have u2 : decide ((dn : Int) < 8) = true := by simp; omega
                          by_cases hy : y = tz
                          · have HS := Lib.hid (show fnd D2 tz (k + 1) = true by rw [hsn, hfn, hy]; simp)
                            have u3 : (y == tz) = true := by simpa using hy
                            have u4 : decide (y = tz) = true := by simpa using hy
                            clear hsn hfn hy
                            go_wp2_with fail
                            go_quiet (fail)
                            go_wp2
                            go_roundw
                            case rel => exact ⟨k + 1, by omega, by simp, by rw [HS.out], _, by first | exact rfl | exact World.drewN_drewN _ _ _⟩
                            case measure => simp [intOf]; omega
                          · have HS := Lib.hid (show fnd D2 tz (k + 1) = false by rw [hsn, hfn]; simpa using hy)
                            have u3 : (y == tz) = false := by simpa using hy
                            have u4 : decide (y = tz) = false := by simpa using hy
                            clear hsn hfn hy
                            go_wp2_with fail
                            go_quiet (fail)
                            go_wp2
                            go_roundw
                            case rel => exact ⟨k + 1, by omega, by simp, by rw [HS.out], _, by first | exact rfl | exact World.drewN_drewN _ _ _⟩
                            case measure => simp [intOf]; omega
                      · obtain rfl : k = D1.length := by omega
                        rw [HFA.out]
                        go_wp2
                        go_roundw
                        case rel => exact ⟨q + 1, by omega, by simp, _, rfl⟩
                        case measure => simp [intOf]; omega
                · obtain rfl : q = D1.length := by omega
                  go_wp2
                  go_ret
                  exact ⟨rfl, below_drewN_ hbwb _⟩
end Go.Proofs.YtidgdfjnjgonoaaGreatDoor
