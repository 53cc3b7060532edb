/-
  The reference's Parse at whatever text.
-/

import Derived.Test.YtphhkfelpckilaaGreatDoorPPaB
import Derived.Test.YtphhkfelpckilaaGreatDoorPRPr
import Derived.Test.YtphhkfelpckilaaGreatDoorTBack
import Derived.Test.YtphhkfelpckilaaGreatDoorQTail
import Derived.Test.YtphhkfelpckilaaGreatDoorGBoard
import Derived.Test.YtphhkfelpckilaaGreatDoorQThen
import Derived.Test.YtphhkfelpckilaaGreatDoorDParse
import Derived.WalkMore
import Derived.StillTailTactics
import Derived.Laws.ResultCell
namespace Go.Proofs.YtphhkfelpckilaaGreatDoor
open Go Go.RowKit Go.Lib Go.Sort

theorem info_parsed : (Tryz.prog.info? 74).map (·.size) = some 6 := by kernel_rfl
/-- What the reference's Parse gives back. -/
def RParsed (w : World) (q : PosS) (z : Int) (e : Ending) (w' : World) : Prop :=
  ∃ x : PosA, x.p = q ∧ e = .returned (.agg #[.slice x.a x.p.cells.length x.c, .slice x.a0 x.p.h0.length x.c0, .slice x.a1 x.p.h1.length x.c1, .int .i64 x.p.rights, .int .i64 x.p.side, .int .i64 z]) ∧ PosOwn w.heap.size w' x.a x.a0 x.a1 x.c x.c0 x.c1 x.p ∧ Below w.heap.size w w'
def zeroA : PosA := ⟨posZero, none, none, none, 0, 0, 0⟩
theorem nil_own (n : Nat) (W : World) : OwnInts n W (.slice none 0 0) [] := ⟨rfl, .inl ⟨rfl, rfl⟩⟩
theorem zeroA_own (n : Nat) (W : World) : PosOwn n W zeroA.a zeroA.a0 zeroA.a1 zeroA.c zeroA.c0 zeroA.c1 zeroA.p := ⟨nil_own _ _, nil_own _ _, nil_own _ _⟩
def l3 (a b c : List Int) : Nat → List Int := fun i => if i = 0 then a else if i = 1 then b else c
theorem l3_0 (a b c M : List Int) : upd (l3 a b c) 0 M = l3 M b c := by funext j; unfold upd l3; split <;> rfl
theorem l3_1 (a b c M : List Int) : upd (l3 a b c) 1 M = l3 a M c := by
  funext j; unfold upd l3
  by_cases h0 : j = 0
  · subst h0; rfl
  · by_cases h1 : j = 1
    · subst h1; rfl
    · simp [h0, h1]
theorem l3_2 (a b c M : List Int) (j : Nat) (hj : j < 3) : upd (l3 a b c) 2 M j = l3 a b M j := by
  unfold upd l3
  rcases (show j = 0 ∨ j = 1 ∨ j = 2 by omega) with rfl | rfl | rfl <;> rfl
def set6 (W : World) (b : Nat) (u0 u1 u2 u3 u4 u5 : Value) : World := (((((W.setCell ⟨b, 0, none⟩ u0).setCell ⟨b, 1, none⟩ u1).setCell ⟨b, 2, none⟩ u2).setCell ⟨b, 3, none⟩ u3).setCell ⟨b, 4, none⟩ u4).setCell ⟨b, 5, none⟩ u5
theorem set6_alters (W : World) (b : Nat) (u0 u1 u2 u3 u4 u5 : Value) : Alters (fun k => k = b) W (set6 W b u0 u1 u2 u3 u4 u5) :=
  (((((alters_cell W b 0 u0).trans (alters_cell _ b 1 u1)).trans (alters_cell _ b 2 u2)).trans (alters_cell _ b 3 u3)).trans (alters_cell _ b 4 u4)).trans (alters_cell _ b 5 u5)
theorem set6_block {W : World} {b : Nat} {cs : Array Value} {t : TypeId} (h : W.heap[b]? = some (.cells cs t (0, 0))) (u0 u1 u2 u3 u4 u5 : Value) :
    (set6 W b u0 u1 u2 u3 u4 u5).heap[b]? = some (.cells ((((((cs.setIfInBounds 0 u0).setIfInBounds 1 u1).setIfInBounds 2 u2).setIfInBounds 3 u3).setIfInBounds 4 u4).setIfInBounds 5 u5) t (0, 0)) :=
  bx_set (bx_set (bx_set (bx_set (bx_set (bx_set h 0 _) 1 _) 2 _) 3 _) 4 _) 5 _
theorem own_ints2 {n k c : Nat} {W : World} {a : Option Addr} {l : List Int} (h : OwnInts n W (.slice a k c) l) : Ints W.heap.size W a l := by
  obtain ⟨a', cap, e, hI⟩ := h.ints
  cases e
  exact hI
theorem PSt.list {h B : Nat} {v : Nat → Value} {L M : Nat → List Int} {r d : Int} {W : World} (s : PSt h B v L r d W) (e : ∀ j, j < 3 → L j = M j) : PSt h B v M r d W :=
  ⟨s.box, s.lt, fun i hi => by rw [← e i hi]; exact s.own i hi, s.apart⟩

theorem bget (s : List UInt8) (i : Nat) (h : i < (⟨s.toArray⟩ : ByteArray).size) : (⟨s.toArray⟩ : ByteArray)[i]'h = s[i]?.getD 0 := by
  have hi : i < s.length := by simpa [ByteArray.size] using h
  show s.toArray[i]'(by simpa using hi) = _
  simp [hi]
theorem take_map {f : UInt8 → Int} {s : List UInt8} {q : Nat} (h : q < s.length) : (s.take (q + 1)).map f = (s.take q).map f ++ [f (s[q]?.getD 0)] := by
  rw [List.take_add_one, List.map_append]; simp [h]
theorem take_map_len {f : UInt8 → Int} {s : List UInt8} {q : Nat} (h : q ≤ s.length) : ((s.take q).map f).length = q := by simp; omega

set_option maxRecDepth 100000 in
set_option maxHeartbeats 3000000 in
theorem rparse_any (bc r : Nat) (ks : List Bool) (vn vt vm vc vb ve : Value) (ak : Option Addr) (ck N : Nat) (s : List UInt8) (w : World) (hbc : bc ≤ 9) (hr : r ≤ 2) (hks : ks.length ≤ 2) (hN : N ≤ w.heap.size) (hK : Keeps N w ak ks) (hl : s.length ≤ 1000000) :
    Calls Tryz.prog 35 #[.agg #[.int .i64 (bc : Int), vn, vt, .slice ak ks.length ck, .int .i64 (r : Int), vm, vc, vb, ve], .string ⟨s.toArray⟩] w (RParsed w (if rfOk bc r ks s = true then rfP bc ks.length s else posZero) (if rfOk bc r ks s = true then 0 else 3)) := by
  have w1 : IntKind.i64.wrap (2 * (ks.length : Int)) = 2 * (ks.length : Int) := IntWalk.i64_in _ (by omega)
  have w2 : IntKind.i64.wrap ((bc : Int) + 2 * (ks.length : Int)) = (bc : Int) + 2 * (ks.length : Int) := IntWalk.i64_in _ (by omega)
  have w3 : IntKind.i64.wrap ((bc : Int) + 2 * (ks.length : Int) + 6) = (bc : Int) + 2 * (ks.length : Int) + 6 := IntWalk.i64_in _ (by omega)
  have w4 : IntKind.i64.wrap ((bc : Int) + 2 * (ks.length : Int) + 7) = (bc : Int) + 2 * (ks.length : Int) + 7 := IntWalk.i64_in _ (by omega)
  by_cases h1 : s.length < bc + 2 * ks.length + 6
  · have HW : rfOk bc r ks s = false := by unfold rfOk winR; rw [decide_eq_false (by omega)]; rfl
    rw [HW]
    clear HW
    have t1 : decide ((s.length : Int) < (bc : Int) + 2 * (ks.length : Int) + 6) = true := by rw [decide_eq_true_eq]; omega
    go_enter Tryz.func35, Tryz.ntmps35
    go_wp2
    refine bodyPost_ret_by (v := .agg #[.slice none 0 0, .slice none 0 0, .slice none 0 0, .int .i64 0, .int .i64 0, .int .i64 3]) (results_cell_row rfl _ _ (w.heap.size + 1) 74 _ (0, 0) _ rfl (hp_old_at (hp_new_at _ _ (by simp))) Tryz.underlying74 rfl info_parsed) rfl ?_
    exact ⟨zeroA, rfl, rfl, zeroA_own _ _, below_alloc (below_alloc (below_alloc (Below.refl _ _) _) _) _⟩
  have t1 : decide ((s.length : Int) < (bc : Int) + 2 * (ks.length : Int) + 6) = false := by rw [decide_eq_false_iff_not]; omega
  by_cases h2 : bc + 2 * ks.length + 7 < s.length
  · have HW : rfOk bc r ks s = false := by unfold rfOk winR; rw [decide_eq_false (p := s.length ≤ bc + 2 * ks.length + 7) (by omega), Bool.and_false]; rfl
    rw [HW]
    clear HW
    have t2 : decide ((bc : Int) + 2 * (ks.length : Int) + 7 < (s.length : Int)) = true := by rw [decide_eq_true_eq]; omega
    go_enter Tryz.func35, Tryz.ntmps35
    go_wp2
    refine bodyPost_ret_by (v := .agg #[.slice none 0 0, .slice none 0 0, .slice none 0 0, .int .i64 0, .int .i64 0, .int .i64 3]) (results_cell_row rfl _ _ (w.heap.size + 1) 74 _ (0, 0) _ rfl (hp_old_at (hp_new_at _ _ (by simp))) Tryz.underlying74 rfl info_parsed) rfl ?_
    exact ⟨zeroA, rfl, rfl, zeroA_own _ _, below_alloc (below_alloc (below_alloc (Below.refl _ _) _) _) _⟩
  have t2 : decide ((bc : Int) + 2 * (ks.length : Int) + 7 < (s.length : Int)) = false := by rw [decide_eq_false_iff_not]; omega
  have HW : rfOk bc r ks s = parseOk bc r ks (rfP bc ks.length s) s := by unfold rfOk winR; rw [decide_eq_true (by omega), decide_eq_true (by omega)]; rfl
  rw [HW]
  clear HW
  obtain ⟨PP, hPP⟩ : ∃ PP, rfP bc ks.length s = PP := ⟨_, rfl⟩
  rw [hPP]
  have HPP := Lib.hid hPP
  clear hPP
  obtain ⟨QP, hQP⟩ : ∃ QP, (if parseOk bc r ks PP s = true then PP else posZero) = QP := ⟨_, rfl⟩
  obtain ⟨QZ, hQZ⟩ : ∃ QZ : Int, (if parseOk bc r ks PP s = true then (0 : Int) else 3) = QZ := ⟨_, rfl⟩
  rw [hQP, hQZ]
  have HQ := Lib.hid (And.intro hQP hQZ)
  clear hQP hQZ
  have w5 : IntKind.i64.wrap ((s.length : Int) - 1) = (s.length : Int) - 1 := IntWalk.i64_in _ (by omega)
  have b1 : (0 : Int) ≤ (s.length : Int) - 1 := by omega
  have b2 : (s.length : Int) - 1 < (s.length : Int) := by omega
  go_enter Tryz.func35, Tryz.ntmps35
  go_upto_region 6 with (fail)
  clear t1 t2 w4
  have hb0 : Below w.heap.size w (((w.alloc (.cells #[.int .i64 (bc : Int), vn, vt, .slice ak ks.length ck, .int .i64 (r : Int), vm, vc, vb, ve] 41)).alloc (.cells #[.slice none 0 0, .slice none 0 0, .slice none 0 0, .int .i64 0, .int .i64 0, .int .i64 0] 74)).alloc (.cells #[.slice none 0 0, .slice none 0 0, .slice none 0 0, .int .i64 0, .int .i64 0, .int .i64 3] 74)) := below_alloc (below_alloc (below_alloc (Below.refl _ _) _) _) _
  have hG0 : (((w.alloc (.cells #[.int .i64 (bc : Int), vn, vt, .slice ak ks.length ck, .int .i64 (r : Int), vm, vc, vb, ve] 41)).alloc (.cells #[.slice none 0 0, .slice none 0 0, .slice none 0 0, .int .i64 0, .int .i64 0, .int .i64 0] 74)).alloc (.cells #[.slice none 0 0, .slice none 0 0, .slice none 0 0, .int .i64 0, .int .i64 0, .int .i64 3] 74)).heap[w.heap.size]? = some (.cells #[.int .i64 (bc : Int), vn, vt, .slice ak ks.length ck, .int .i64 (r : Int), vm, vc, vb, ve] 41 (0, 0)) := hp_old_at (hp_old_at (World.alloc_heap_new _ _))
  have hR0 : (((w.alloc (.cells #[.int .i64 (bc : Int), vn, vt, .slice ak ks.length ck, .int .i64 (r : Int), vm, vc, vb, ve] 41)).alloc (.cells #[.slice none 0 0, .slice none 0 0, .slice none 0 0, .int .i64 0, .int .i64 0, .int .i64 0] 74)).alloc (.cells #[.slice none 0 0, .slice none 0 0, .slice none 0 0, .int .i64 0, .int .i64 0, .int .i64 3] 74)).heap[w.heap.size + 1]? = some (.cells #[.slice none 0 0, .slice none 0 0, .slice none 0 0, .int .i64 0, .int .i64 0, .int .i64 0] 74 (0, 0)) := hp_old_at (hp_new_at _ _ (by simp))
  have hD0 : (((w.alloc (.cells #[.int .i64 (bc : Int), vn, vt, .slice ak ks.length ck, .int .i64 (r : Int), vm, vc, vb, ve] 41)).alloc (.cells #[.slice none 0 0, .slice none 0 0, .slice none 0 0, .int .i64 0, .int .i64 0, .int .i64 0] 74)).alloc (.cells #[.slice none 0 0, .slice none 0 0, .slice none 0 0, .int .i64 0, .int .i64 0, .int .i64 3] 74)).heap[w.heap.size + 1 + 1]? = some (.cells #[.slice none 0 0, .slice none 0 0, .slice none 0 0, .int .i64 0, .int .i64 0, .int .i64 3] 74 (0, 0)) := hp_new_at _ _ (by simp)
  generalize ((w.alloc (.cells #[.int .i64 (bc : Int), vn, vt, .slice ak ks.length ck, .int .i64 (r : Int), vm, vc, vb, ve] 41)).alloc (.cells #[.slice none 0 0, .slice none 0 0, .slice none 0 0, .int .i64 0, .int .i64 0, .int .i64 0] 74)).alloc (.cells #[.slice none 0 0, .slice none 0 0, .slice none 0 0, .int .i64 0, .int .i64 0, .int .i64 3] 74) = w0 at *
  go_upto_region 7 with (go_at_call 63; refine (digit_any _ w0).mono ?_; rintro e w' ⟨rfl, e0⟩; subst w'; rw [bget])
  obtain ⟨d, hd⟩ : ∃ d, digR (s[s.length - 1]?.getD 0) = d := ⟨_, rfl⟩
  rw [hd]
  have HD := Lib.hid hd
  clear hd b1 b2 w5
  have st0 : PSt (w0.heap.size + 1) w0.heap.size (fun _ => .slice none 0 0) (l3 ((s.take 0).map celR) [] []) 0 d (w0.alloc (.cells #[.slice none 0 0, .slice none 0 0, .slice none 0 0, .int .i64 0, .int .i64 d] 32)) :=
    ⟨World.alloc_heap_new _ _, Nat.lt_succ_self _, fun i hi => by rcases (show i = 0 ∨ i = 1 ∨ i = 2 by omega) with rfl | rfl | rfl <;> exact nil_own _ _, fun i j hi hj hij k hk => by cases hk⟩
  have hbB := below_alloc (Below.refl _ w0) (.cells #[.slice none 0 0, .slice none 0 0, .slice none 0 0, .int .i64 0, .int .i64 d] 32)
  generalize w0.alloc (.cells #[.slice none 0 0, .slice none 0 0, .slice none 0 0, .int .i64 0, .int .i64 d] 32) = wA at *
  have HF := Lib.hid (fun W (h : Below w0.heap.size w0 W) => (show W.heap[w.heap.size]? = some (.cells #[.int .i64 (bc : Int), vn, vt, .slice ak ks.length ck, .int .i64 (r : Int), vm, vc, vb, ve] 41 (0, 0)) ∧ W.heap[w.heap.size + 1]? = some (.cells #[.slice none 0 0, .slice none 0 0, .slice none 0 0, .int .i64 0, .int .i64 0, .int .i64 0] 74 (0, 0)) ∧ W.heap[w.heap.size + 1 + 1]? = some (.cells #[.slice none 0 0, .slice none 0 0, .slice none 0 0, .int .i64 0, .int .i64 0, .int .i64 3] 74 (0, 0)) ∧ Below w.heap.size w W from
    ⟨(h.block _ (bx_lt hG0)).trans hG0, (h.block _ (bx_lt hR0)).trans hR0, (h.block _ (bx_lt hD0)).trans hD0, below_step hb0 h⟩))
  have HRB : Hid (w.heap.size + 1 < w0.heap.size) := Lib.hid (bx_lt hR0)
  clear hG0 hR0 hD0 hb0
  generalize w0.heap.size = B at *
  go_wp2_with fail
  go_loopw [9, 10] (fun v9 _ wr => ∃ (q : Nat) (v : Nat → Value), q ≤ bc ∧ v9 = .int .i64 (q : Int) ∧ PSt (B + 1) B v (l3 ((s.take q).map celR) [] []) 0 d wr ∧ Below B w0 wr) (fun v9 _ _ => (bc - intOf v9).toNat)
  case atStart => exact ⟨0, _, Nat.zero_le _, rfl, st0, hbB⟩
  case round =>
    clear st0 hbB
    obtain ⟨q, v, hq, rfl, hst, hbw⟩ := hrel
    obtain ⟨Lc, hLc⟩ : ∃ Lc, (s.take q).map celR = Lc := ⟨_, rfl⟩
    have HLN : Hid (Lc.length = q) := Lib.hid (by rw [← hLc]; exact take_map_len (by omega))
    rw [hLc] at hst
    have HLC := Lib.hid hLc
    have HST := Lib.hid hst
    have HBW := Lib.hid hbw
    clear hst hbw hLc
    by_cases hlt : q < bc
    · have t3 : decide ((q : Int) < (bc : Int)) = true := by rw [decide_eq_true_eq]; omega
      have t3' : decide (q < bc) = true := by simpa using hlt
      have b3 : (0 : Int) ≤ (q : Int) := by omega
      have b4 : (q : Int) < (s.length : Int) := by omega
      have b5 : q < s.length := by omega
      have hlt' : q < (⟨s.toArray⟩ : ByteArray).size := by simpa [ByteArray.size] using b5
      obtain ⟨x, hxe⟩ : ∃ x, (⟨s.toArray⟩ : ByteArray)[q]'hlt' = x := ⟨_, rfl⟩
      have HX : Hid (s[q]?.getD 0 = x) := Lib.hid (by rw [← hxe, bget])
      have hx256 : x.toNat < 256 := x.toNat_lt
      by_cases h46 : x.toNat = 46
      · have k0 : ((x.toNat : Int) == 46) = true := by rw [beq_iff_eq]; omega
        have l0 : (x.toNat == 46) = true := by rw [beq_iff_eq]; omega
        have k1 : decide (65 ≤ (x.toNat : Int)) = false := by rw [decide_eq_false_iff_not]; omega
        have l1 : decide (65 ≤ x.toNat) = false := by rw [decide_eq_false_iff_not]; omega
        have k2 : decide (97 ≤ (x.toNat : Int)) = false := by rw [decide_eq_false_iff_not]; omega
        have l2 : decide (97 ≤ x.toNat) = false := by rw [decide_eq_false_iff_not]; omega
        have HCV : Hid (celR x = 0) := Lib.hid (by unfold celR; rw [if_neg (by omega), if_neg (by omega), if_pos (by omega)])
        go_upto_region 17 with (fail)
        clear k0 l0 k1 l1 k2 l2 t3 t3' hxe
        have hHNA := (HST.out.up ((Below.refl _ wr).alloc (Nat.le_refl _) (.cells #[.int .i64 (0)] 3))).own 0 (by omega)
        have HNA : Hid (OwnInts (B + 1) (wr.alloc (.cells #[.int .i64 (0)] 3)) (v 0) Lc) := Lib.hid hHNA
        clear hHNA
        obtain ⟨c0, -, -, -, -, hf⟩ := HST.out.cells
        have f0 := hf 0
        clear hf
        have HM : Hid (Lc ++ [0] = (s.take (q + 1)).map celR) := Lib.hid (by rw [take_map b5, HX.out, HCV.out, HLC.out])
        go_wp2_with (at_builtin; go_loud (refine wpList_push rfl (.tmp 90) (.tmp 92) rfl (B + 1) _ _ rfl HNA.out (by have := HLN.out; omega) (by have := HST.out.size; simp; omega) ⟨wr.heap.size, 0, none⟩ (0) rfl (cell_new_at _ _ _ _ _ _ rfl rfl) ?_; intro g8 cap8 w8 hown8 hg8 hat8; have hbx := HST.out.grown (i := 0) (by omega) hg8; have q8 := bx_cell hbx 0 rfl; have f8 := bx_frozen hbx 0; clear hbx c0 f0))
        have hst := HST.out.push (i := 0) (by omega) hown8 hg8 (hat8.imp (fun e => e.symm) (fun e => congrArg some e))
        rw [l3_0, HM.out] at hst
        have HS2 := Lib.hid hst
        have HB2 := Lib.hid (HBW.out.trans hst.2)
        clear hst hown8 hg8 hat8 q8 f8
        go_roundw
        case rel => exact ⟨q + 1, _, by omega, by go_num, HS2.out.1, HB2.out⟩
        case measure => simp [intOf]; omega
      · by_cases h65 : x.toNat < 65
        · have k0 : ((x.toNat : Int) == 46) = false := by rw [beq_eq_false_iff_ne]; omega
          have l0 : (x.toNat == 46) = false := by rw [beq_eq_false_iff_ne]; omega
          have k1 : decide (65 ≤ (x.toNat : Int)) = false := by rw [decide_eq_false_iff_not]; omega
          have l1 : decide (65 ≤ x.toNat) = false := by rw [decide_eq_false_iff_not]; omega
          have k2 : decide (97 ≤ (x.toNat : Int)) = false := by rw [decide_eq_false_iff_not]; omega
          have l2 : decide (97 ≤ x.toNat) = false := by rw [decide_eq_false_iff_not]; omega
          have HCV : Hid (celR x = 99) := Lib.hid (by unfold celR; rw [if_neg (by omega), if_neg (by omega), if_neg (by omega)])
          go_upto_region 17 with (fail)
          clear k0 l0 k1 l1 k2 l2 t3 t3' hxe
          have hHNA := (HST.out.up ((Below.refl _ wr).alloc (Nat.le_refl _) (.cells #[.int .i64 (99)] 3))).own 0 (by omega)
          have HNA : Hid (OwnInts (B + 1) (wr.alloc (.cells #[.int .i64 (99)] 3)) (v 0) Lc) := Lib.hid hHNA
          clear hHNA
          obtain ⟨c0, -, -, -, -, hf⟩ := HST.out.cells
          have f0 := hf 0
          clear hf
          have HM : Hid (Lc ++ [99] = (s.take (q + 1)).map celR) := Lib.hid (by rw [take_map b5, HX.out, HCV.out, HLC.out])
          go_wp2_with (at_builtin; go_loud (refine wpList_push rfl (.tmp 90) (.tmp 92) rfl (B + 1) _ _ rfl HNA.out (by have := HLN.out; omega) (by have := HST.out.size; simp; omega) ⟨wr.heap.size, 0, none⟩ (99) rfl (cell_new_at _ _ _ _ _ _ rfl rfl) ?_; intro g8 cap8 w8 hown8 hg8 hat8; have hbx := HST.out.grown (i := 0) (by omega) hg8; have q8 := bx_cell hbx 0 rfl; have f8 := bx_frozen hbx 0; clear hbx c0 f0))
          have hst := HST.out.push (i := 0) (by omega) hown8 hg8 (hat8.imp (fun e => e.symm) (fun e => congrArg some e))
          rw [l3_0, HM.out] at hst
          have HS2 := Lib.hid hst
          have HB2 := Lib.hid (HBW.out.trans hst.2)
          clear hst hown8 hg8 hat8 q8 f8
          go_roundw
          case rel => exact ⟨q + 1, _, by omega, by go_num, HS2.out.1, HB2.out⟩
          case measure => simp [intOf]; omega
        · by_cases h90 : x.toNat ≤ 90
          · have k0 : ((x.toNat : Int) == 46) = false := by rw [beq_eq_false_iff_ne]; omega
            have l0 : (x.toNat == 46) = false := by rw [beq_eq_false_iff_ne]; omega
            have k1 : decide (65 ≤ (x.toNat : Int)) = true := by rw [decide_eq_true_eq]; omega
            have l1 : decide (65 ≤ x.toNat) = true := by rw [decide_eq_true_eq]; omega
            have k2 : decide ((x.toNat : Int) ≤ 90) = true := by rw [decide_eq_true_eq]; omega
            have l2 : decide (x.toNat ≤ 90) = true := by rw [decide_eq_true_eq]; omega
            have k3 : decide (97 ≤ (x.toNat : Int)) = false := by rw [decide_eq_false_iff_not]; omega
            have l3 : decide (97 ≤ x.toNat) = false := by rw [decide_eq_false_iff_not]; omega
            have v1 : IntKind.u8.wrap ((x.toNat : Int) - 65) = (x.toNat : Int) - 65 := by have := u8_id (x.toNat - 65) (by omega); rwa [show ((x.toNat - 65 : Nat) : Int) = (x.toNat : Int) - 65 by omega] at this
            have v2 : IntKind.i64.wrap ((x.toNat : Int) - 65) = (x.toNat : Int) - 65 := IntWalk.i64_in _ (by omega)
            have v3 : IntKind.i64.wrap (2 * ((x.toNat : Int) - 65)) = 2 * ((x.toNat : Int) - 65) := IntWalk.i64_in _ (by omega)
            have v4 : IntKind.i64.wrap (1 + 2 * ((x.toNat : Int) - 65)) = 1 + 2 * ((x.toNat : Int) - 65) := IntWalk.i64_in _ (by omega)
            have HCV : Hid (celR x = 1 + 2 * ((x.toNat : Int) - 65)) := Lib.hid (by unfold celR; rw [if_neg (by omega), if_pos (by omega)])
            go_upto_region 17 with (fail)
            clear k0 l0 k1 l1 k2 l2 k3 l3 v1 v2 v3 v4 t3 t3' hxe
            have hHNA := (HST.out.up ((Below.refl _ wr).alloc (Nat.le_refl _) (.cells #[.int .i64 (1 + 2 * ((x.toNat : Int) - 65))] 3))).own 0 (by omega)
            have HNA : Hid (OwnInts (B + 1) (wr.alloc (.cells #[.int .i64 (1 + 2 * ((x.toNat : Int) - 65))] 3)) (v 0) Lc) := Lib.hid hHNA
            clear hHNA
            obtain ⟨c0, -, -, -, -, hf⟩ := HST.out.cells
            have f0 := hf 0
            clear hf
            have HM : Hid (Lc ++ [1 + 2 * ((x.toNat : Int) - 65)] = (s.take (q + 1)).map celR) := Lib.hid (by rw [take_map b5, HX.out, HCV.out, HLC.out])
            go_wp2_with (at_builtin; go_loud (refine wpList_push rfl (.tmp 90) (.tmp 92) rfl (B + 1) _ _ rfl HNA.out (by have := HLN.out; omega) (by have := HST.out.size; simp; omega) ⟨wr.heap.size, 0, none⟩ (1 + 2 * ((x.toNat : Int) - 65)) rfl (cell_new_at _ _ _ _ _ _ rfl rfl) ?_; intro g8 cap8 w8 hown8 hg8 hat8; have hbx := HST.out.grown (i := 0) (by omega) hg8; have q8 := bx_cell hbx 0 rfl; have f8 := bx_frozen hbx 0; clear hbx c0 f0))
            have hst := HST.out.push (i := 0) (by omega) hown8 hg8 (hat8.imp (fun e => e.symm) (fun e => congrArg some e))
            rw [l3_0, HM.out] at hst
            have HS2 := Lib.hid hst
            have HB2 := Lib.hid (HBW.out.trans hst.2)
            clear hst hown8 hg8 hat8 q8 f8
            go_roundw
            case rel => exact ⟨q + 1, _, by omega, by go_num, HS2.out.1, HB2.out⟩
            case measure => simp [intOf]; omega
          · by_cases h97 : x.toNat < 97
            · have k0 : ((x.toNat : Int) == 46) = false := by rw [beq_eq_false_iff_ne]; omega
              have l0 : (x.toNat == 46) = false := by rw [beq_eq_false_iff_ne]; omega
              have k1 : decide (65 ≤ (x.toNat : Int)) = true := by rw [decide_eq_true_eq]; omega
              have l1 : decide (65 ≤ x.toNat) = true := by rw [decide_eq_true_eq]; omega
              have k2 : decide ((x.toNat : Int) ≤ 90) = false := by rw [decide_eq_false_iff_not]; omega
              have l2 : decide (x.toNat ≤ 90) = false := by rw [decide_eq_false_iff_not]; omega
              have k3 : decide (97 ≤ (x.toNat : Int)) = false := by rw [decide_eq_false_iff_not]; omega
              have l3 : decide (97 ≤ x.toNat) = false := by rw [decide_eq_false_iff_not]; omega
              have HCV : Hid (celR x = 99) := Lib.hid (by unfold celR; rw [if_neg (by omega), if_neg (by omega), if_neg (by omega)])
              go_upto_region 17 with (fail)
              clear k0 l0 k1 l1 k2 l2 k3 l3 t3 t3' hxe
              have hHNA := (HST.out.up ((Below.refl _ wr).alloc (Nat.le_refl _) (.cells #[.int .i64 (99)] 3))).own 0 (by omega)
              have HNA : Hid (OwnInts (B + 1) (wr.alloc (.cells #[.int .i64 (99)] 3)) (v 0) Lc) := Lib.hid hHNA
              clear hHNA
              obtain ⟨c0, -, -, -, -, hf⟩ := HST.out.cells
              have f0 := hf 0
              clear hf
              have HM : Hid (Lc ++ [99] = (s.take (q + 1)).map celR) := Lib.hid (by rw [take_map b5, HX.out, HCV.out, HLC.out])
              go_wp2_with (at_builtin; go_loud (refine wpList_push rfl (.tmp 90) (.tmp 92) rfl (B + 1) _ _ rfl HNA.out (by have := HLN.out; omega) (by have := HST.out.size; simp; omega) ⟨wr.heap.size, 0, none⟩ (99) rfl (cell_new_at _ _ _ _ _ _ rfl rfl) ?_; intro g8 cap8 w8 hown8 hg8 hat8; have hbx := HST.out.grown (i := 0) (by omega) hg8; have q8 := bx_cell hbx 0 rfl; have f8 := bx_frozen hbx 0; clear hbx c0 f0))
              have hst := HST.out.push (i := 0) (by omega) hown8 hg8 (hat8.imp (fun e => e.symm) (fun e => congrArg some e))
              rw [l3_0, HM.out] at hst
              have HS2 := Lib.hid hst
              have HB2 := Lib.hid (HBW.out.trans hst.2)
              clear hst hown8 hg8 hat8 q8 f8
              go_roundw
              case rel => exact ⟨q + 1, _, by omega, by go_num, HS2.out.1, HB2.out⟩
              case measure => simp [intOf]; omega
            · by_cases h122 : x.toNat ≤ 122
              · have k0 : ((x.toNat : Int) == 46) = false := by rw [beq_eq_false_iff_ne]; omega
                have l0 : (x.toNat == 46) = false := by rw [beq_eq_false_iff_ne]; omega
                have k1 : decide (65 ≤ (x.toNat : Int)) = true := by rw [decide_eq_true_eq]; omega
                have l1 : decide (65 ≤ x.toNat) = true := by rw [decide_eq_true_eq]; omega
                have k2 : decide ((x.toNat : Int) ≤ 90) = false := by rw [decide_eq_false_iff_not]; omega
                have l2 : decide (x.toNat ≤ 90) = false := by rw [decide_eq_false_iff_not]; omega
                have k3 : decide (97 ≤ (x.toNat : Int)) = true := by rw [decide_eq_true_eq]; omega
                have l3 : decide (97 ≤ x.toNat) = true := by rw [decide_eq_true_eq]; omega
                have k4 : decide ((x.toNat : Int) ≤ 122) = true := by rw [decide_eq_true_eq]; omega
                have l4 : decide (x.toNat ≤ 122) = true := by rw [decide_eq_true_eq]; omega
                have v1 : IntKind.u8.wrap ((x.toNat : Int) - 97) = (x.toNat : Int) - 97 := by have := u8_id (x.toNat - 97) (by omega); rwa [show ((x.toNat - 97 : Nat) : Int) = (x.toNat : Int) - 97 by omega] at this
                have v2 : IntKind.i64.wrap ((x.toNat : Int) - 97) = (x.toNat : Int) - 97 := IntWalk.i64_in _ (by omega)
                have v3 : IntKind.i64.wrap (2 * ((x.toNat : Int) - 97)) = 2 * ((x.toNat : Int) - 97) := IntWalk.i64_in _ (by omega)
                have v4 : IntKind.i64.wrap (2 + 2 * ((x.toNat : Int) - 97)) = 2 + 2 * ((x.toNat : Int) - 97) := IntWalk.i64_in _ (by omega)
                have HCV : Hid (celR x = 2 + 2 * ((x.toNat : Int) - 97)) := Lib.hid (by unfold celR; rw [if_pos (by omega)])
                go_upto_region 17 with (fail)
                clear k0 l0 k1 l1 k2 l2 k3 l3 k4 l4 v1 v2 v3 v4 t3 t3' hxe
                have hHNA := (HST.out.up ((Below.refl _ wr).alloc (Nat.le_refl _) (.cells #[.int .i64 (2 + 2 * ((x.toNat : Int) - 97))] 3))).own 0 (by omega)
                have HNA : Hid (OwnInts (B + 1) (wr.alloc (.cells #[.int .i64 (2 + 2 * ((x.toNat : Int) - 97))] 3)) (v 0) Lc) := Lib.hid hHNA
                clear hHNA
                obtain ⟨c0, -, -, -, -, hf⟩ := HST.out.cells
                have f0 := hf 0
                clear hf
                have HM : Hid (Lc ++ [2 + 2 * ((x.toNat : Int) - 97)] = (s.take (q + 1)).map celR) := Lib.hid (by rw [take_map b5, HX.out, HCV.out, HLC.out])
                go_wp2_with (at_builtin; go_loud (refine wpList_push rfl (.tmp 90) (.tmp 92) rfl (B + 1) _ _ rfl HNA.out (by have := HLN.out; omega) (by have := HST.out.size; simp; omega) ⟨wr.heap.size, 0, none⟩ (2 + 2 * ((x.toNat : Int) - 97)) rfl (cell_new_at _ _ _ _ _ _ rfl rfl) ?_; intro g8 cap8 w8 hown8 hg8 hat8; have hbx := HST.out.grown (i := 0) (by omega) hg8; have q8 := bx_cell hbx 0 rfl; have f8 := bx_frozen hbx 0; clear hbx c0 f0))
                have hst := HST.out.push (i := 0) (by omega) hown8 hg8 (hat8.imp (fun e => e.symm) (fun e => congrArg some e))
                rw [l3_0, HM.out] at hst
                have HS2 := Lib.hid hst
                have HB2 := Lib.hid (HBW.out.trans hst.2)
                clear hst hown8 hg8 hat8 q8 f8
                go_roundw
                case rel => exact ⟨q + 1, _, by omega, by go_num, HS2.out.1, HB2.out⟩
                case measure => simp [intOf]; omega
              · have k0 : ((x.toNat : Int) == 46) = false := by rw [beq_eq_false_iff_ne]; omega
                have l0 : (x.toNat == 46) = false := by rw [beq_eq_false_iff_ne]; omega
                have k1 : decide (65 ≤ (x.toNat : Int)) = true := by rw [decide_eq_true_eq]; omega
                have l1 : decide (65 ≤ x.toNat) = true := by rw [decide_eq_true_eq]; omega
                have k2 : decide ((x.toNat : Int) ≤ 90) = false := by rw [decide_eq_false_iff_not]; omega
                have l2 : decide (x.toNat ≤ 90) = false := by rw [decide_eq_false_iff_not]; omega
                have k3 : decide (97 ≤ (x.toNat : Int)) = true := by rw [decide_eq_true_eq]; omega
                have l3 : decide (97 ≤ x.toNat) = true := by rw [decide_eq_true_eq]; omega
                have k4 : decide ((x.toNat : Int) ≤ 122) = false := by rw [decide_eq_false_iff_not]; omega
                have l4 : decide (x.toNat ≤ 122) = false := by rw [decide_eq_false_iff_not]; omega
                have HCV : Hid (celR x = 99) := Lib.hid (by unfold celR; rw [if_neg (by omega), if_neg (by omega), if_neg (by omega)])
                go_upto_region 17 with (fail)
                clear k0 l0 k1 l1 k2 l2 k3 l3 k4 l4 t3 t3' hxe
                have hHNA := (HST.out.up ((Below.refl _ wr).alloc (Nat.le_refl _) (.cells #[.int .i64 (99)] 3))).own 0 (by omega)
                have HNA : Hid (OwnInts (B + 1) (wr.alloc (.cells #[.int .i64 (99)] 3)) (v 0) Lc) := Lib.hid hHNA
                clear hHNA
                obtain ⟨c0, -, -, -, -, hf⟩ := HST.out.cells
                have f0 := hf 0
                clear hf
                have HM : Hid (Lc ++ [99] = (s.take (q + 1)).map celR) := Lib.hid (by rw [take_map b5, HX.out, HCV.out, HLC.out])
                go_wp2_with (at_builtin; go_loud (refine wpList_push rfl (.tmp 90) (.tmp 92) rfl (B + 1) _ _ rfl HNA.out (by have := HLN.out; omega) (by have := HST.out.size; simp; omega) ⟨wr.heap.size, 0, none⟩ (99) rfl (cell_new_at _ _ _ _ _ _ rfl rfl) ?_; intro g8 cap8 w8 hown8 hg8 hat8; have hbx := HST.out.grown (i := 0) (by omega) hg8; have q8 := bx_cell hbx 0 rfl; have f8 := bx_frozen hbx 0; clear hbx c0 f0))
                have hst := HST.out.push (i := 0) (by omega) hown8 hg8 (hat8.imp (fun e => e.symm) (fun e => congrArg some e))
                rw [l3_0, HM.out] at hst
                have HS2 := Lib.hid hst
                have HB2 := Lib.hid (HBW.out.trans hst.2)
                clear hst hown8 hg8 hat8 q8 f8
                go_roundw
                case rel => exact ⟨q + 1, _, by omega, by go_num, HS2.out.1, HB2.out⟩
                case measure => simp [intOf]; omega
    · obtain rfl : bc = q := by omega
      have wk1 : IntKind.i64.wrap ((bc : Int) + 1) = (bc : Int) + 1 := IntWalk.i64_in _ (by omega)
      have wk2 : IntKind.i64.wrap ((bc : Int) + (ks.length : Int)) = (bc : Int) + (ks.length : Int) := IntWalk.i64_in _ (by omega)
      have wk3 : IntKind.i64.wrap ((bc : Int) + (ks.length : Int) + 2) = (bc : Int) + (ks.length : Int) + 2 := IntWalk.i64_in _ (by omega)
      clear HLN
      go_wp2_with fail
      go_loopw [11] (fun v11 wr => ∃ (q : Nat) (v : Nat → Value), q ≤ ks.length ∧ v11 = .int .i64 (q : Int) ∧ PSt (B + 1) B v (l3 Lc (((s.drop (bc + 1)).take q).map digR) (((s.drop (bc + ks.length + 2)).take q).map digR)) 0 d wr ∧ Below B w0 wr) (fun v11 _ => (ks.length - intOf v11).toNat)
      case atStart => exact ⟨0, _, Nat.zero_le _, rfl, HST.out, HBW.out⟩
      case round =>
        clear HST HBW v
        obtain ⟨q, v, hq, rfl, hst, hbw⟩ := hrel
        obtain ⟨L1, hL1⟩ : ∃ L1, ((s.drop (bc + 1)).take q).map digR = L1 := ⟨_, rfl⟩
        obtain ⟨L2, hL2⟩ : ∃ L2, ((s.drop (bc + ks.length + 2)).take q).map digR = L2 := ⟨_, rfl⟩
        have HLN1 : Hid (L1.length = q) := Lib.hid (by rw [← hL1]; exact take_map_len (by rw [List.length_drop]; omega))
        have HLN2 : Hid (L2.length = q) := Lib.hid (by rw [← hL2]; exact take_map_len (by rw [List.length_drop]; omega))
        rw [hL1, hL2] at hst
        have HL1 := Lib.hid hL1
        have HL2 := Lib.hid hL2
        have HST := Lib.hid hst
        have HBW := Lib.hid hbw
        clear hst hbw hL1 hL2
        by_cases hlt : q < ks.length
        · have t3 : decide ((q : Int) < (ks.length : Int)) = true := by rw [decide_eq_true_eq]; omega
          have t3' : decide (q < ks.length) = true := by simpa using hlt
          go_upto_region 21 with (fail)
          go_cut [] from 100 to 113 (fun wy => ∃ v, PSt (B + 1) B v (l3 Lc (((s.drop (bc + 1)).take (q + 1)).map digR) L2) 0 d wy ∧ Below B w0 wy)
          case first =>
            have y0 : IntKind.i64.wrap ((bc : Int) + 1 + (q : Int)) = (bc : Int) + 1 + (q : Int) := IntWalk.i64_in _ (by omega)
            have b3 : (0 : Int) ≤ (bc : Int) + 1 + (q : Int) := by omega
            have b4 : (bc : Int) + 1 + (q : Int) < (s.length : Int) := by omega
            have b5 : (bc + 1 + q) < s.length := by omega
            have hlt' : ((bc : Int) + 1 + (q : Int)).toNat < (⟨s.toArray⟩ : ByteArray).size := by rw [show ((bc : Int) + 1 + (q : Int)).toNat = (bc + 1 + q) by omega]; simpa [ByteArray.size] using b5
            obtain ⟨x1, hxe⟩ : ∃ x1, (⟨s.toArray⟩ : ByteArray)[((bc : Int) + 1 + (q : Int)).toNat]'hlt' = x1 := ⟨_, rfl⟩
            have HX : Hid (s[(bc + 1 + q)]?.getD 0 = x1) := Lib.hid (by rw [← hxe, bget, show ((bc : Int) + 1 + (q : Int)).toNat = (bc + 1 + q) by omega])
            have HM : Hid (L1 ++ [digR x1] = ((s.drop (bc + 1)).take (q + 1)).map digR) := Lib.hid (by rw [take_map (s := s.drop (bc + 1)) (q := q) (by rw [List.length_drop]; omega), List.getElem?_drop, HX.out, HL1.out])
            have hsd := HST.out.up (Below.refl _ wr).drew
            have hbd := HBW.out.trans (((Below.refl _ wr).drew).mono (Nat.le_of_lt HST.out.size))
            refine wp_region_held_drew (S := fun _ => True) (by as_aux_lemma => kernel_rfl) trivial (fun hHeld => ?_)
            clear hHeld
            generalize wr.drew = wD at *
            have HNA : Hid (OwnInts (B + 1) (wD.alloc (.cells #[.int .i64 (digR x1)] 3)) (v 1) L1) := Lib.hid ((hsd.up ((Below.refl _ wD).alloc (Nat.le_refl _) _)).own 1 (by omega))
            have HSZ : Hid (B + 1 ≤ (wD.alloc (.cells #[.int .i64 (digR x1)] 3)).heap.size) := Lib.hid (by have := hsd.size; rw [World.size_alloc]; omega)
            obtain ⟨c0, c1, c2, -, -, -⟩ := hsd.cells
            have HSD := Lib.hid hsd
            have HBD := Lib.hid hbd
            clear hsd hbd
            have hT : True := trivial
            refine wpAnyH_take (i := 0) (oi := { dst := some 100, op := Op.fieldAddr 32 (Operand.tmp 8) 1, type := 0, pos := "ref.go:231", after := #[], guard := none }) (v := ?_) rfl (by as_aux_lemma => kernel_rfl) (by as_aux_lemma => kernel_rfl) (by as_aux_lemma => kernel_rfl) (fun _ _ _ h => h) (Or.inl ⟨by rfl, ?_⟩) (by assumption) ?_
            rotate_left
            · ((intro w hSw; (try dsimp only at hSw); go_simp); try with_reducible rfl)
            (try simp only [Act.put, List.setIfInBounds_toArray, List.set_cons_zero, List.set_cons_succ])
            refine wpAnyH_take (i := 1) (oi := { dst := some 101, op := Op.indexAddr 30 (Operand.tmp 100) (Operand.const (Value.int IntKind.i64 0)), type := 0, pos := "ref.go:231", after := #[{ on := 0, ground := Ground.data }], guard := none }) (v := ?_) rfl (by as_aux_lemma => kernel_rfl) (by as_aux_lemma => kernel_rfl) (by as_aux_lemma => kernel_rfl) (fun _ _ _ h => h) (Or.inl ⟨by rfl, ?_⟩) (by assumption) ?_
            rotate_left
            · ((intro w hSw; (try dsimp only at hSw); go_simp); try with_reducible rfl)
            (try simp only [Act.put, List.setIfInBounds_toArray, List.set_cons_zero, List.set_cons_succ])
            refine wpAnyH_take (i := 3) (oi := { dst := some 103, op := Op.move (Operand.tmp 1), type := 9, pos := "ref.go:231", after := #[], guard := none }) (v := ?_) rfl (by as_aux_lemma => kernel_rfl) (by as_aux_lemma => kernel_rfl) (by as_aux_lemma => kernel_rfl) (fun _ _ _ h => h) (Or.inl ⟨by rfl, ?_⟩) (by assumption) ?_
            rotate_left
            · ((intro w hSw; (try dsimp only at hSw); go_simp); try with_reducible rfl)
            (try simp only [Act.put, List.setIfInBounds_toArray, List.set_cons_zero, List.set_cons_succ])
            refine wpAnyH_take (i := 4) (oi := { dst := some 104, op := Op.move (Operand.tmp 6), type := 3, pos := "ref.go:231", after := #[], guard := none }) (v := ?_) rfl (by as_aux_lemma => kernel_rfl) (by as_aux_lemma => kernel_rfl) (by as_aux_lemma => kernel_rfl) (fun _ _ _ h => h) (Or.inl ⟨by rfl, ?_⟩) (by assumption) ?_
            rotate_left
            · ((intro w hSw; (try dsimp only at hSw); go_simp); try with_reducible rfl)
            (try simp only [Act.put, List.setIfInBounds_toArray, List.set_cons_zero, List.set_cons_succ])
            refine wpAnyH_take (i := 5) (oi := { dst := some 105, op := Op.binOp BinOp.add 3 (Operand.tmp 104) (Operand.const (Value.int IntKind.i64 1)) 3, type := 3, pos := "ref.go:231", after := #[{ on := 4, ground := Ground.data }], guard := none }) (v := ?_) rfl (by as_aux_lemma => kernel_rfl) (by as_aux_lemma => kernel_rfl) (by as_aux_lemma => kernel_rfl) (fun _ _ _ h => h) (Or.inl ⟨by rfl, ?_⟩) (by assumption) ?_
            rotate_left
            · ((intro w hSw; (try dsimp only at hSw); go_simp); try with_reducible rfl)
            (try simp only [Act.put, List.setIfInBounds_toArray, List.set_cons_zero, List.set_cons_succ])
            refine wpAnyH_take (i := 6) (oi := { dst := some 106, op := Op.move (Operand.tmp 11), type := 3, pos := "ref.go:231", after := #[], guard := none }) (v := ?_) rfl (by as_aux_lemma => kernel_rfl) (by as_aux_lemma => kernel_rfl) (by as_aux_lemma => kernel_rfl) (fun _ _ _ h => h) (Or.inl ⟨by rfl, ?_⟩) (by assumption) ?_
            rotate_left
            · ((intro w hSw; (try dsimp only at hSw); go_simp); try with_reducible rfl)
            (try simp only [Act.put, List.setIfInBounds_toArray, List.set_cons_zero, List.set_cons_succ])
            refine wpAnyH_take (i := 7) (oi := { dst := some 107, op := Op.binOp BinOp.add 3 (Operand.tmp 105) (Operand.tmp 106) 3, type := 3, pos := "ref.go:231", after := #[{ on := 5, ground := Ground.data }, { on := 6, ground := Ground.data }], guard := none }) (v := ?_) rfl (by as_aux_lemma => kernel_rfl) (by as_aux_lemma => kernel_rfl) (by as_aux_lemma => kernel_rfl) (fun _ _ _ h => h) (Or.inl ⟨by rfl, ?_⟩) (by assumption) ?_
            rotate_left
            · ((intro w hSw; (try dsimp only at hSw); go_simp); try with_reducible rfl)
            (try simp only [Act.put, List.setIfInBounds_toArray, List.set_cons_zero, List.set_cons_succ])
            refine wpAnyH_take (i := 8) (oi := { dst := some 108, op := Op.index 9 (Operand.tmp 103) (Operand.tmp 107), type := 5, pos := "ref.go:231", after := #[{ on := 3, ground := Ground.data }, { on := 7, ground := Ground.data }], guard := none }) (v := ?_) rfl (by as_aux_lemma => kernel_rfl) (by as_aux_lemma => kernel_rfl) (by as_aux_lemma => kernel_rfl) (fun _ _ _ h => h) (Or.inl ⟨by rfl, ?_⟩) (by assumption) ?_
            rotate_left
            · ((intro w hSw; (try dsimp only at hSw); go_simp); try with_reducible rfl)
            (try simp only [Act.put, List.setIfInBounds_toArray, List.set_cons_zero, List.set_cons_succ])
            refine wpAnyH_take (i := 12) (oi := { dst := some 112, op := Op.fieldAddr 32 (Operand.tmp 8) 1, type := 0, pos := "ref.go:231", after := #[], guard := none }) (v := ?_) rfl (by as_aux_lemma => kernel_rfl) (by as_aux_lemma => kernel_rfl) (by as_aux_lemma => kernel_rfl) (fun _ _ _ h => h) (Or.inl ⟨by rfl, ?_⟩) (by assumption) ?_
            rotate_left
            · ((intro w hSw; (try dsimp only at hSw); go_simp); try with_reducible rfl)
            (try simp only [Act.put, List.setIfInBounds_toArray, List.set_cons_zero, List.set_cons_succ])
            refine wpAnyH_ready (rs := [2, 9]) (by as_aux_lemma => kernel_rfl) (by simp) ?_
            refine AllReadyH.cons (o := { dst := some 102, op := Op.load 29 (Operand.tmp 101), type := 29, pos := "ref.go:231", after := #[{ on := 1, ground := Ground.data }], guard := none }) rfl (fun K hK => ?_) (AllReadyH.cons (o := { dst := some 109, op := Op.call { callee := Callee.value (Operand.func 63), args := #[Operand.tmp 108], argTypes := #[5] }, type := 3, pos := "ref.go:231", after := #[{ on := 8, ground := Ground.data }], guard := none }) rfl (fun K hK => ?_) AllReadyH.nil)
            · go_simp
              refine hK.out _ _ trivial (fun _ => ?_)
              clear hK K
              (try simp only [Act.put, List.setIfInBounds_toArray, List.set_cons_zero, List.set_cons_succ])
              refine wpAnyH_ready (rs := [9]) (by as_aux_lemma => kernel_rfl) (by simp) ?_
              refine AllReadyH.cons (o := { dst := some 109, op := Op.call { callee := Callee.value (Operand.func 63), args := #[Operand.tmp 108], argTypes := #[5] }, type := 3, pos := "ref.go:231", after := #[{ on := 8, ground := Ground.data }], guard := none }) rfl (fun K hK => ?_) AllReadyH.nil
              refine step_call_g rfl 63 _ _ #[.int .u8 (x1.toNat : Int)] rfl rfl (enters_of Tryz.func63 (by as_aux_lemma => kernel_rfl) rfl) ((digit_any x1 _).mono ?_)
              rintro e w' ⟨rfl, e0⟩
              subst w'
              refine ⟨_, rfl, ?_⟩
              refine hK.out _ _ trivial (fun _ => ?_)
              clear hK K
              (try simp only [Act.put, List.setIfInBounds_toArray, List.set_cons_zero, List.set_cons_succ])
              refine wpAnyH_ready (rs := [10]) (by as_aux_lemma => kernel_rfl) (by simp) ?_
              refine AllReadyH.cons (o := { dst := some 110, op := Op.buildSlice 29 1 #[(0, Operand.tmp 109)], type := 29, pos := "ref.go:231", after := #[{ on := 9, ground := Ground.data }], guard := none }) rfl (fun K hK => ?_) AllReadyH.nil
              go_simp
              refine hK.out _ _ trivial (fun _ => ?_)
              clear hK K
              (try simp only [Act.put, List.setIfInBounds_toArray, List.set_cons_zero, List.set_cons_succ])
              refine wpAnyH_ready (rs := [11]) (by as_aux_lemma => kernel_rfl) (by simp) ?_
              refine AllReadyH.cons (o := { dst := some 111, op := Op.call { callee := Callee.builtin Builtin.append, args := #[Operand.tmp 102, Operand.tmp 110], argTypes := #[29, 29] }, type := 29, pos := "ref.go:231", after := #[{ on := 2, ground := Ground.data }, { on := 10, ground := Ground.data }, { on := 9, ground := Ground.chain }], guard := none }) rfl (fun K hK => ?_) AllReadyH.nil
              refine step_append_at rfl (.tmp 102) (.tmp 110) rfl (B + 1) (v 1) L1 rfl HNA.out (by have := HLN1.out; omega) HSZ.out ⟨wD.heap.size, 0, none⟩ (digR x1) rfl (cell_new_at _ _ _ _ _ _ rfl rfl) (fun g8 cap8 w8 hown8 hg8 hat8 => ?_)
              refine hK.out _ _ trivial (fun _ => ?_)
              clear hK K
              (try simp only [Act.put, List.setIfInBounds_toArray, List.set_cons_zero, List.set_cons_succ])
              have hbx := HSD.out.grown (i := 1) (by omega) hg8
              have q8 := bx_cell hbx 1 rfl
              have f8 := bx_frozen hbx 1
              have hT : True := trivial
              refine wpAnyH_take (i := 13) (oi := { dst := some 113, op := Op.indexAddr 30 (Operand.tmp 112) (Operand.const (Value.int IntKind.i64 0)), type := 0, pos := "ref.go:231", after := #[{ on := 12, ground := Ground.data }, { on := 0, ground := Ground.phase }, { on := 1, ground := Ground.phase }, { on := 2, ground := Ground.phase }, { on := 3, ground := Ground.phase }, { on := 4, ground := Ground.phase }, { on := 5, ground := Ground.phase }, { on := 6, ground := Ground.phase }, { on := 7, ground := Ground.phase }, { on := 8, ground := Ground.phase }, { on := 9, ground := Ground.phase }, { on := 10, ground := Ground.phase }, { on := 11, ground := Ground.phase }], guard := none }) (v := ?_) rfl (by as_aux_lemma => kernel_rfl) (by as_aux_lemma => kernel_rfl) (by as_aux_lemma => kernel_rfl) (fun _ _ _ h => h) (Or.inl ⟨by rfl, ?_⟩) (by assumption) ?_
              rotate_left
              · ((intro w hSw; (try dsimp only at hSw); go_simp); try with_reducible rfl)
              (try simp only [Act.put, List.setIfInBounds_toArray, List.set_cons_zero, List.set_cons_succ])
              refine wpAnyH_ready (rs := [14]) (by as_aux_lemma => kernel_rfl) (by simp) ?_
              refine AllReadyH.cons (o := { dst := none, op := Op.store 29 (Operand.tmp 113) (Operand.tmp 111), type := 0, pos := "ref.go:231", after := #[{ on := 13, ground := Ground.data }, { on := 11, ground := Ground.data }, { on := 11, ground := Ground.chain }, { on := 0, ground := Ground.phase }, { on := 1, ground := Ground.phase }, { on := 2, ground := Ground.phase }, { on := 3, ground := Ground.phase }, { on := 4, ground := Ground.phase }, { on := 5, ground := Ground.phase }, { on := 6, ground := Ground.phase }, { on := 7, ground := Ground.phase }, { on := 8, ground := Ground.phase }, { on := 9, ground := Ground.phase }, { on := 10, ground := Ground.phase }, { on := 11, ground := Ground.phase }], guard := none }) rfl (fun K hK => ?_) AllReadyH.nil
              go_simp
              refine hK.out _ _ trivial (fun _ => ?_)
              clear hK K
              refine wpAnyH_done (by as_aux_lemma => kernel_rfl) ?_ _
              have hst := HSD.out.push (i := 1) (by omega) hown8 hg8 (hat8.imp (fun e => e.symm) (fun e => congrArg some e))
              rw [l3_1, HM.out] at hst
              have HS2 := Lib.hid hst.1
              have HB2 := Lib.hid (HBD.out.trans hst.2)
              clear hst hown8 hg8 hat8 q8 f8 hbx
              go_wp2_with fail
              go_meet
              exact ⟨_, HS2.out, HB2.out⟩
            · refine step_call_g rfl 63 _ _ #[.int .u8 (x1.toNat : Int)] rfl rfl (enters_of Tryz.func63 (by as_aux_lemma => kernel_rfl) rfl) ((digit_any x1 _).mono ?_)
              rintro e w' ⟨rfl, e0⟩
              subst w'
              refine ⟨_, rfl, ?_⟩
              refine hK.out _ _ trivial (fun _ => ?_)
              clear hK K
              (try simp only [Act.put, List.setIfInBounds_toArray, List.set_cons_zero, List.set_cons_succ])
              refine wpAnyH_ready (rs := [2, 10]) (by as_aux_lemma => kernel_rfl) (by simp) ?_
              refine AllReadyH.cons (o := { dst := some 102, op := Op.load 29 (Operand.tmp 101), type := 29, pos := "ref.go:231", after := #[{ on := 1, ground := Ground.data }], guard := none }) rfl (fun K hK => ?_) (AllReadyH.cons (o := { dst := some 110, op := Op.buildSlice 29 1 #[(0, Operand.tmp 109)], type := 29, pos := "ref.go:231", after := #[{ on := 9, ground := Ground.data }], guard := none }) rfl (fun K hK => ?_) AllReadyH.nil)
              · go_simp
                refine hK.out _ _ trivial (fun _ => ?_)
                clear hK K
                (try simp only [Act.put, List.setIfInBounds_toArray, List.set_cons_zero, List.set_cons_succ])
                refine wpAnyH_ready (rs := [10]) (by as_aux_lemma => kernel_rfl) (by simp) ?_
                refine AllReadyH.cons (o := { dst := some 110, op := Op.buildSlice 29 1 #[(0, Operand.tmp 109)], type := 29, pos := "ref.go:231", after := #[{ on := 9, ground := Ground.data }], guard := none }) rfl (fun K hK => ?_) AllReadyH.nil
                go_simp
                refine hK.out _ _ trivial (fun _ => ?_)
                clear hK K
                (try simp only [Act.put, List.setIfInBounds_toArray, List.set_cons_zero, List.set_cons_succ])
                refine wpAnyH_ready (rs := [11]) (by as_aux_lemma => kernel_rfl) (by simp) ?_
                refine AllReadyH.cons (o := { dst := some 111, op := Op.call { callee := Callee.builtin Builtin.append, args := #[Operand.tmp 102, Operand.tmp 110], argTypes := #[29, 29] }, type := 29, pos := "ref.go:231", after := #[{ on := 2, ground := Ground.data }, { on := 10, ground := Ground.data }, { on := 9, ground := Ground.chain }], guard := none }) rfl (fun K hK => ?_) AllReadyH.nil
                refine step_append_at rfl (.tmp 102) (.tmp 110) rfl (B + 1) (v 1) L1 rfl HNA.out (by have := HLN1.out; omega) HSZ.out ⟨wD.heap.size, 0, none⟩ (digR x1) rfl (cell_new_at _ _ _ _ _ _ rfl rfl) (fun g8 cap8 w8 hown8 hg8 hat8 => ?_)
                refine hK.out _ _ trivial (fun _ => ?_)
                clear hK K
                (try simp only [Act.put, List.setIfInBounds_toArray, List.set_cons_zero, List.set_cons_succ])
                have hbx := HSD.out.grown (i := 1) (by omega) hg8
                have q8 := bx_cell hbx 1 rfl
                have f8 := bx_frozen hbx 1
                have hT : True := trivial
                refine wpAnyH_take (i := 13) (oi := { dst := some 113, op := Op.indexAddr 30 (Operand.tmp 112) (Operand.const (Value.int IntKind.i64 0)), type := 0, pos := "ref.go:231", after := #[{ on := 12, ground := Ground.data }, { on := 0, ground := Ground.phase }, { on := 1, ground := Ground.phase }, { on := 2, ground := Ground.phase }, { on := 3, ground := Ground.phase }, { on := 4, ground := Ground.phase }, { on := 5, ground := Ground.phase }, { on := 6, ground := Ground.phase }, { on := 7, ground := Ground.phase }, { on := 8, ground := Ground.phase }, { on := 9, ground := Ground.phase }, { on := 10, ground := Ground.phase }, { on := 11, ground := Ground.phase }], guard := none }) (v := ?_) rfl (by as_aux_lemma => kernel_rfl) (by as_aux_lemma => kernel_rfl) (by as_aux_lemma => kernel_rfl) (fun _ _ _ h => h) (Or.inl ⟨by rfl, ?_⟩) (by assumption) ?_
                rotate_left
                · ((intro w hSw; (try dsimp only at hSw); go_simp); try with_reducible rfl)
                (try simp only [Act.put, List.setIfInBounds_toArray, List.set_cons_zero, List.set_cons_succ])
                refine wpAnyH_ready (rs := [14]) (by as_aux_lemma => kernel_rfl) (by simp) ?_
                refine AllReadyH.cons (o := { dst := none, op := Op.store 29 (Operand.tmp 113) (Operand.tmp 111), type := 0, pos := "ref.go:231", after := #[{ on := 13, ground := Ground.data }, { on := 11, ground := Ground.data }, { on := 11, ground := Ground.chain }, { on := 0, ground := Ground.phase }, { on := 1, ground := Ground.phase }, { on := 2, ground := Ground.phase }, { on := 3, ground := Ground.phase }, { on := 4, ground := Ground.phase }, { on := 5, ground := Ground.phase }, { on := 6, ground := Ground.phase }, { on := 7, ground := Ground.phase }, { on := 8, ground := Ground.phase }, { on := 9, ground := Ground.phase }, { on := 10, ground := Ground.phase }, { on := 11, ground := Ground.phase }], guard := none }) rfl (fun K hK => ?_) AllReadyH.nil
                go_simp
                refine hK.out _ _ trivial (fun _ => ?_)
                clear hK K
                refine wpAnyH_done (by as_aux_lemma => kernel_rfl) ?_ _
                have hst := HSD.out.push (i := 1) (by omega) hown8 hg8 (hat8.imp (fun e => e.symm) (fun e => congrArg some e))
                rw [l3_1, HM.out] at hst
                have HS2 := Lib.hid hst.1
                have HB2 := Lib.hid (HBD.out.trans hst.2)
                clear hst hown8 hg8 hat8 q8 f8 hbx
                go_wp2_with fail
                go_meet
                exact ⟨_, HS2.out, HB2.out⟩
              · go_simp
                refine hK.out _ _ trivial (fun _ => ?_)
                clear hK K
                (try simp only [Act.put, List.setIfInBounds_toArray, List.set_cons_zero, List.set_cons_succ])
                have c9 := cell_alloc_keep c1 (.cells #[.int .i64 (digR x1)] 3)
                refine wpAnyH_ready (rs := [2]) (by as_aux_lemma => kernel_rfl) (by simp) ?_
                refine AllReadyH.cons (o := { dst := some 102, op := Op.load 29 (Operand.tmp 101), type := 29, pos := "ref.go:231", after := #[{ on := 1, ground := Ground.data }], guard := none }) rfl (fun K hK => ?_) AllReadyH.nil
                go_simp
                refine hK.out _ _ trivial (fun _ => ?_)
                clear hK K
                (try simp only [Act.put, List.setIfInBounds_toArray, List.set_cons_zero, List.set_cons_succ])
                refine wpAnyH_ready (rs := [11]) (by as_aux_lemma => kernel_rfl) (by simp) ?_
                refine AllReadyH.cons (o := { dst := some 111, op := Op.call { callee := Callee.builtin Builtin.append, args := #[Operand.tmp 102, Operand.tmp 110], argTypes := #[29, 29] }, type := 29, pos := "ref.go:231", after := #[{ on := 2, ground := Ground.data }, { on := 10, ground := Ground.data }, { on := 9, ground := Ground.chain }], guard := none }) rfl (fun K hK => ?_) AllReadyH.nil
                refine step_append_at rfl (.tmp 102) (.tmp 110) rfl (B + 1) (v 1) L1 rfl HNA.out (by have := HLN1.out; omega) HSZ.out ⟨wD.heap.size, 0, none⟩ (digR x1) rfl (cell_new_at _ _ _ _ _ _ rfl rfl) (fun g8 cap8 w8 hown8 hg8 hat8 => ?_)
                refine hK.out _ _ trivial (fun _ => ?_)
                clear hK K
                (try simp only [Act.put, List.setIfInBounds_toArray, List.set_cons_zero, List.set_cons_succ])
                have hbx := HSD.out.grown (i := 1) (by omega) hg8
                have q8 := bx_cell hbx 1 rfl
                have f8 := bx_frozen hbx 1
                have hT : True := trivial
                refine wpAnyH_take (i := 13) (oi := { dst := some 113, op := Op.indexAddr 30 (Operand.tmp 112) (Operand.const (Value.int IntKind.i64 0)), type := 0, pos := "ref.go:231", after := #[{ on := 12, ground := Ground.data }, { on := 0, ground := Ground.phase }, { on := 1, ground := Ground.phase }, { on := 2, ground := Ground.phase }, { on := 3, ground := Ground.phase }, { on := 4, ground := Ground.phase }, { on := 5, ground := Ground.phase }, { on := 6, ground := Ground.phase }, { on := 7, ground := Ground.phase }, { on := 8, ground := Ground.phase }, { on := 9, ground := Ground.phase }, { on := 10, ground := Ground.phase }, { on := 11, ground := Ground.phase }], guard := none }) (v := ?_) rfl (by as_aux_lemma => kernel_rfl) (by as_aux_lemma => kernel_rfl) (by as_aux_lemma => kernel_rfl) (fun _ _ _ h => h) (Or.inl ⟨by rfl, ?_⟩) (by assumption) ?_
                rotate_left
                · ((intro w hSw; (try dsimp only at hSw); go_simp); try with_reducible rfl)
                (try simp only [Act.put, List.setIfInBounds_toArray, List.set_cons_zero, List.set_cons_succ])
                refine wpAnyH_ready (rs := [14]) (by as_aux_lemma => kernel_rfl) (by simp) ?_
                refine AllReadyH.cons (o := { dst := none, op := Op.store 29 (Operand.tmp 113) (Operand.tmp 111), type := 0, pos := "ref.go:231", after := #[{ on := 13, ground := Ground.data }, { on := 11, ground := Ground.data }, { on := 11, ground := Ground.chain }, { on := 0, ground := Ground.phase }, { on := 1, ground := Ground.phase }, { on := 2, ground := Ground.phase }, { on := 3, ground := Ground.phase }, { on := 4, ground := Ground.phase }, { on := 5, ground := Ground.phase }, { on := 6, ground := Ground.phase }, { on := 7, ground := Ground.phase }, { on := 8, ground := Ground.phase }, { on := 9, ground := Ground.phase }, { on := 10, ground := Ground.phase }, { on := 11, ground := Ground.phase }], guard := none }) rfl (fun K hK => ?_) AllReadyH.nil
                go_simp
                refine hK.out _ _ trivial (fun _ => ?_)
                clear hK K
                refine wpAnyH_done (by as_aux_lemma => kernel_rfl) ?_ _
                have hst := HSD.out.push (i := 1) (by omega) hown8 hg8 (hat8.imp (fun e => e.symm) (fun e => congrArg some e))
                rw [l3_1, HM.out] at hst
                have HS2 := Lib.hid hst.1
                have HB2 := Lib.hid (HBD.out.trans hst.2)
                clear hst hown8 hg8 hat8 q8 f8 hbx
                go_wp2_with fail
                go_meet
                exact ⟨_, HS2.out, HB2.out⟩
          case rest =>
            clear HST HBW v
            obtain ⟨v, hst, hbw⟩ := hcut
            obtain ⟨L1b, hL1b⟩ : ∃ L1b, ((s.drop (bc + 1)).take (q + 1)).map digR = L1b := ⟨_, rfl⟩
            rw [hL1b] at hst
            have HL1b := Lib.hid hL1b
            have HST := Lib.hid hst
            have HBW := Lib.hid hbw
            clear hst hbw hL1b HL1 HLN1
            clear wr
            generalize wc = wr at *
            go_upto_region 22 with (fail)
            have y0 : IntKind.i64.wrap ((bc : Int) + (ks.length : Int) + 2 + (q : Int)) = (bc : Int) + (ks.length : Int) + 2 + (q : Int) := IntWalk.i64_in _ (by omega)
            have b3 : (0 : Int) ≤ (bc : Int) + (ks.length : Int) + 2 + (q : Int) := by omega
            have b4 : (bc : Int) + (ks.length : Int) + 2 + (q : Int) < (s.length : Int) := by omega
            have b5 : (bc + ks.length + 2 + q) < s.length := by omega
            have hlt' : ((bc : Int) + (ks.length : Int) + 2 + (q : Int)).toNat < (⟨s.toArray⟩ : ByteArray).size := by rw [show ((bc : Int) + (ks.length : Int) + 2 + (q : Int)).toNat = (bc + ks.length + 2 + q) by omega]; simpa [ByteArray.size] using b5
            obtain ⟨x1, hxe⟩ : ∃ x1, (⟨s.toArray⟩ : ByteArray)[((bc : Int) + (ks.length : Int) + 2 + (q : Int)).toNat]'hlt' = x1 := ⟨_, rfl⟩
            have HX : Hid (s[(bc + ks.length + 2 + q)]?.getD 0 = x1) := Lib.hid (by rw [← hxe, bget, show ((bc : Int) + (ks.length : Int) + 2 + (q : Int)).toNat = (bc + ks.length + 2 + q) by omega])
            have HM : Hid (L2 ++ [digR x1] = ((s.drop (bc + ks.length + 2)).take (q + 1)).map digR) := Lib.hid (by rw [take_map (s := s.drop (bc + ks.length + 2)) (q := q) (by rw [List.length_drop]; omega), List.getElem?_drop, HX.out, HL2.out])
            have hsd := HST.out.up (Below.refl _ wr).drew
            have hbd := HBW.out.trans (((Below.refl _ wr).drew).mono (Nat.le_of_lt HST.out.size))
            refine wp_region_held_drew (S := fun _ => True) (by as_aux_lemma => kernel_rfl) trivial (fun hHeld => ?_)
            clear hHeld
            generalize wr.drew = wD at *
            have HNA : Hid (OwnInts (B + 1) (wD.alloc (.cells #[.int .i64 (digR x1)] 3)) (v 2) L2) := Lib.hid ((hsd.up ((Below.refl _ wD).alloc (Nat.le_refl _) _)).own 2 (by omega))
            have HSZ : Hid (B + 1 ≤ (wD.alloc (.cells #[.int .i64 (digR x1)] 3)).heap.size) := Lib.hid (by have := hsd.size; rw [World.size_alloc]; omega)
            obtain ⟨c0, c1, c2, -, -, -⟩ := hsd.cells
            have HSD := Lib.hid hsd
            have HBD := Lib.hid hbd
            clear hsd hbd
            have hT : True := trivial
            refine wpAnyH_take (i := 0) (oi := { dst := some 114, op := Op.fieldAddr 32 (Operand.tmp 8) 1, type := 0, pos := "ref.go:232", after := #[], guard := none }) (v := ?_) rfl (by as_aux_lemma => kernel_rfl) (by as_aux_lemma => kernel_rfl) (by as_aux_lemma => kernel_rfl) (fun _ _ _ h => h) (Or.inl ⟨by rfl, ?_⟩) (by assumption) ?_
            rotate_left
            · ((intro w hSw; (try dsimp only at hSw); go_simp); try with_reducible rfl)
            (try simp only [Act.put, List.setIfInBounds_toArray, List.set_cons_zero, List.set_cons_succ])
            refine wpAnyH_take (i := 1) (oi := { dst := some 115, op := Op.indexAddr 30 (Operand.tmp 114) (Operand.const (Value.int IntKind.i64 1)), type := 0, pos := "ref.go:232", after := #[{ on := 0, ground := Ground.data }], guard := none }) (v := ?_) rfl (by as_aux_lemma => kernel_rfl) (by as_aux_lemma => kernel_rfl) (by as_aux_lemma => kernel_rfl) (fun _ _ _ h => h) (Or.inl ⟨by rfl, ?_⟩) (by assumption) ?_
            rotate_left
            · ((intro w hSw; (try dsimp only at hSw); go_simp); try with_reducible rfl)
            (try simp only [Act.put, List.setIfInBounds_toArray, List.set_cons_zero, List.set_cons_succ])
            refine wpAnyH_take (i := 3) (oi := { dst := some 117, op := Op.move (Operand.tmp 1), type := 9, pos := "ref.go:232", after := #[], guard := none }) (v := ?_) rfl (by as_aux_lemma => kernel_rfl) (by as_aux_lemma => kernel_rfl) (by as_aux_lemma => kernel_rfl) (fun _ _ _ h => h) (Or.inl ⟨by rfl, ?_⟩) (by assumption) ?_
            rotate_left
            · ((intro w hSw; (try dsimp only at hSw); go_simp); try with_reducible rfl)
            (try simp only [Act.put, List.setIfInBounds_toArray, List.set_cons_zero, List.set_cons_succ])
            refine wpAnyH_take (i := 4) (oi := { dst := some 118, op := Op.move (Operand.tmp 6), type := 3, pos := "ref.go:232", after := #[], guard := none }) (v := ?_) rfl (by as_aux_lemma => kernel_rfl) (by as_aux_lemma => kernel_rfl) (by as_aux_lemma => kernel_rfl) (fun _ _ _ h => h) (Or.inl ⟨by rfl, ?_⟩) (by assumption) ?_
            rotate_left
            · ((intro w hSw; (try dsimp only at hSw); go_simp); try with_reducible rfl)
            (try simp only [Act.put, List.setIfInBounds_toArray, List.set_cons_zero, List.set_cons_succ])
            refine wpAnyH_take (i := 5) (oi := { dst := some 119, op := Op.move (Operand.tmp 7), type := 3, pos := "ref.go:232", after := #[], guard := none }) (v := ?_) rfl (by as_aux_lemma => kernel_rfl) (by as_aux_lemma => kernel_rfl) (by as_aux_lemma => kernel_rfl) (fun _ _ _ h => h) (Or.inl ⟨by rfl, ?_⟩) (by assumption) ?_
            rotate_left
            · ((intro w hSw; (try dsimp only at hSw); go_simp); try with_reducible rfl)
            (try simp only [Act.put, List.setIfInBounds_toArray, List.set_cons_zero, List.set_cons_succ])
            refine wpAnyH_take (i := 6) (oi := { dst := some 120, op := Op.binOp BinOp.add 3 (Operand.tmp 118) (Operand.tmp 119) 3, type := 3, pos := "ref.go:232", after := #[{ on := 4, ground := Ground.data }, { on := 5, ground := Ground.data }], guard := none }) (v := ?_) rfl (by as_aux_lemma => kernel_rfl) (by as_aux_lemma => kernel_rfl) (by as_aux_lemma => kernel_rfl) (fun _ _ _ h => h) (Or.inl ⟨by rfl, ?_⟩) (by assumption) ?_
            rotate_left
            · ((intro w hSw; (try dsimp only at hSw); go_simp); try with_reducible rfl)
            (try simp only [Act.put, List.setIfInBounds_toArray, List.set_cons_zero, List.set_cons_succ])
            refine wpAnyH_take (i := 7) (oi := { dst := some 121, op := Op.binOp BinOp.add 3 (Operand.tmp 120) (Operand.const (Value.int IntKind.i64 2)) 3, type := 3, pos := "ref.go:232", after := #[{ on := 6, ground := Ground.data }], guard := none }) (v := ?_) rfl (by as_aux_lemma => kernel_rfl) (by as_aux_lemma => kernel_rfl) (by as_aux_lemma => kernel_rfl) (fun _ _ _ h => h) (Or.inl ⟨by rfl, ?_⟩) (by assumption) ?_
            rotate_left
            · ((intro w hSw; (try dsimp only at hSw); go_simp); try with_reducible rfl)
            (try simp only [Act.put, List.setIfInBounds_toArray, List.set_cons_zero, List.set_cons_succ])
            refine wpAnyH_take (i := 8) (oi := { dst := some 122, op := Op.move (Operand.tmp 11), type := 3, pos := "ref.go:232", after := #[], guard := none }) (v := ?_) rfl (by as_aux_lemma => kernel_rfl) (by as_aux_lemma => kernel_rfl) (by as_aux_lemma => kernel_rfl) (fun _ _ _ h => h) (Or.inl ⟨by rfl, ?_⟩) (by assumption) ?_
            rotate_left
            · ((intro w hSw; (try dsimp only at hSw); go_simp); try with_reducible rfl)
            (try simp only [Act.put, List.setIfInBounds_toArray, List.set_cons_zero, List.set_cons_succ])
            refine wpAnyH_take (i := 9) (oi := { dst := some 123, op := Op.binOp BinOp.add 3 (Operand.tmp 121) (Operand.tmp 122) 3, type := 3, pos := "ref.go:232", after := #[{ on := 7, ground := Ground.data }, { on := 8, ground := Ground.data }], guard := none }) (v := ?_) rfl (by as_aux_lemma => kernel_rfl) (by as_aux_lemma => kernel_rfl) (by as_aux_lemma => kernel_rfl) (fun _ _ _ h => h) (Or.inl ⟨by rfl, ?_⟩) (by assumption) ?_
            rotate_left
            · ((intro w hSw; (try dsimp only at hSw); go_simp); try with_reducible rfl)
            (try simp only [Act.put, List.setIfInBounds_toArray, List.set_cons_zero, List.set_cons_succ])
            refine wpAnyH_take (i := 10) (oi := { dst := some 124, op := Op.index 9 (Operand.tmp 117) (Operand.tmp 123), type := 5, pos := "ref.go:232", after := #[{ on := 3, ground := Ground.data }, { on := 9, ground := Ground.data }], guard := none }) (v := ?_) rfl (by as_aux_lemma => kernel_rfl) (by as_aux_lemma => kernel_rfl) (by as_aux_lemma => kernel_rfl) (fun _ _ _ h => h) (Or.inl ⟨by rfl, ?_⟩) (by assumption) ?_
            rotate_left
            · ((intro w hSw; (try dsimp only at hSw); go_simp); try with_reducible rfl)
            (try simp only [Act.put, List.setIfInBounds_toArray, List.set_cons_zero, List.set_cons_succ])
            refine wpAnyH_take (i := 14) (oi := { dst := some 128, op := Op.fieldAddr 32 (Operand.tmp 8) 1, type := 0, pos := "ref.go:232", after := #[], guard := none }) (v := ?_) rfl (by as_aux_lemma => kernel_rfl) (by as_aux_lemma => kernel_rfl) (by as_aux_lemma => kernel_rfl) (fun _ _ _ h => h) (Or.inl ⟨by rfl, ?_⟩) (by assumption) ?_
            rotate_left
            · ((intro w hSw; (try dsimp only at hSw); go_simp); try with_reducible rfl)
            (try simp only [Act.put, List.setIfInBounds_toArray, List.set_cons_zero, List.set_cons_succ])
            refine wpAnyH_ready (rs := [2, 11]) (by as_aux_lemma => kernel_rfl) (by simp) ?_
            refine AllReadyH.cons (o := { dst := some 116, op := Op.load 29 (Operand.tmp 115), type := 29, pos := "ref.go:232", after := #[{ on := 1, ground := Ground.data }], guard := none }) rfl (fun K hK => ?_) (AllReadyH.cons (o := { dst := some 125, op := Op.call { callee := Callee.value (Operand.func 63), args := #[Operand.tmp 124], argTypes := #[5] }, type := 3, pos := "ref.go:232", after := #[{ on := 10, ground := Ground.data }], guard := none }) rfl (fun K hK => ?_) AllReadyH.nil)
            · go_simp
              refine hK.out _ _ trivial (fun _ => ?_)
              clear hK K
              (try simp only [Act.put, List.setIfInBounds_toArray, List.set_cons_zero, List.set_cons_succ])
              refine wpAnyH_ready (rs := [11]) (by as_aux_lemma => kernel_rfl) (by simp) ?_
              refine AllReadyH.cons (o := { dst := some 125, op := Op.call { callee := Callee.value (Operand.func 63), args := #[Operand.tmp 124], argTypes := #[5] }, type := 3, pos := "ref.go:232", after := #[{ on := 10, ground := Ground.data }], guard := none }) rfl (fun K hK => ?_) AllReadyH.nil
              refine step_call_g rfl 63 _ _ #[.int .u8 (x1.toNat : Int)] rfl rfl (enters_of Tryz.func63 (by as_aux_lemma => kernel_rfl) rfl) ((digit_any x1 _).mono ?_)
              rintro e w' ⟨rfl, e0⟩
              subst w'
              refine ⟨_, rfl, ?_⟩
              refine hK.out _ _ trivial (fun _ => ?_)
              clear hK K
              (try simp only [Act.put, List.setIfInBounds_toArray, List.set_cons_zero, List.set_cons_succ])
              refine wpAnyH_ready (rs := [12]) (by as_aux_lemma => kernel_rfl) (by simp) ?_
              refine AllReadyH.cons (o := { dst := some 126, op := Op.buildSlice 29 1 #[(0, Operand.tmp 125)], type := 29, pos := "ref.go:232", after := #[{ on := 11, ground := Ground.data }], guard := none }) rfl (fun K hK => ?_) AllReadyH.nil
              go_simp
              refine hK.out _ _ trivial (fun _ => ?_)
              clear hK K
              (try simp only [Act.put, List.setIfInBounds_toArray, List.set_cons_zero, List.set_cons_succ])
              refine wpAnyH_ready (rs := [13]) (by as_aux_lemma => kernel_rfl) (by simp) ?_
              refine AllReadyH.cons (o := { dst := some 127, op := Op.call { callee := Callee.builtin Builtin.append, args := #[Operand.tmp 116, Operand.tmp 126], argTypes := #[29, 29] }, type := 29, pos := "ref.go:232", after := #[{ on := 2, ground := Ground.data }, { on := 12, ground := Ground.data }, { on := 11, ground := Ground.chain }], guard := none }) rfl (fun K hK => ?_) AllReadyH.nil
              refine step_append_at rfl (.tmp 116) (.tmp 126) rfl (B + 1) (v 2) L2 rfl HNA.out (by have := HLN2.out; omega) HSZ.out ⟨wD.heap.size, 0, none⟩ (digR x1) rfl (cell_new_at _ _ _ _ _ _ rfl rfl) (fun g8 cap8 w8 hown8 hg8 hat8 => ?_)
              refine hK.out _ _ trivial (fun _ => ?_)
              clear hK K
              (try simp only [Act.put, List.setIfInBounds_toArray, List.set_cons_zero, List.set_cons_succ])
              have hbx := HSD.out.grown (i := 2) (by omega) hg8
              have q8 := bx_cell hbx 2 rfl
              have f8 := bx_frozen hbx 2
              have hT : True := trivial
              refine wpAnyH_take (i := 15) (oi := { dst := some 129, op := Op.indexAddr 30 (Operand.tmp 128) (Operand.const (Value.int IntKind.i64 1)), type := 0, pos := "ref.go:232", after := #[{ on := 14, ground := Ground.data }, { on := 0, ground := Ground.phase }, { on := 1, ground := Ground.phase }, { on := 2, ground := Ground.phase }, { on := 3, ground := Ground.phase }, { on := 4, ground := Ground.phase }, { on := 5, ground := Ground.phase }, { on := 6, ground := Ground.phase }, { on := 7, ground := Ground.phase }, { on := 8, ground := Ground.phase }, { on := 9, ground := Ground.phase }, { on := 10, ground := Ground.phase }, { on := 11, ground := Ground.phase }, { on := 12, ground := Ground.phase }, { on := 13, ground := Ground.phase }], guard := none }) (v := ?_) rfl (by as_aux_lemma => kernel_rfl) (by as_aux_lemma => kernel_rfl) (by as_aux_lemma => kernel_rfl) (fun _ _ _ h => h) (Or.inl ⟨by rfl, ?_⟩) (by assumption) ?_
              rotate_left
              · ((intro w hSw; (try dsimp only at hSw); go_simp); try with_reducible rfl)
              (try simp only [Act.put, List.setIfInBounds_toArray, List.set_cons_zero, List.set_cons_succ])
              refine wpAnyH_ready (rs := [16]) (by as_aux_lemma => kernel_rfl) (by simp) ?_
              refine AllReadyH.cons (o := { dst := none, op := Op.store 29 (Operand.tmp 129) (Operand.tmp 127), type := 0, pos := "ref.go:232", after := #[{ on := 15, ground := Ground.data }, { on := 13, ground := Ground.data }, { on := 13, ground := Ground.chain }, { on := 0, ground := Ground.phase }, { on := 1, ground := Ground.phase }, { on := 2, ground := Ground.phase }, { on := 3, ground := Ground.phase }, { on := 4, ground := Ground.phase }, { on := 5, ground := Ground.phase }, { on := 6, ground := Ground.phase }, { on := 7, ground := Ground.phase }, { on := 8, ground := Ground.phase }, { on := 9, ground := Ground.phase }, { on := 10, ground := Ground.phase }, { on := 11, ground := Ground.phase }, { on := 12, ground := Ground.phase }, { on := 13, ground := Ground.phase }], guard := none }) rfl (fun K hK => ?_) AllReadyH.nil
              go_simp
              refine hK.out _ _ trivial (fun _ => ?_)
              clear hK K
              refine wpAnyH_done (by as_aux_lemma => kernel_rfl) ?_ _
              have hst := HSD.out.push (i := 2) (by omega) hown8 hg8 (hat8.imp (fun e => e.symm) (fun e => congrArg some e))
              have hst2 := hst.1.list (fun j hj => l3_2 _ _ _ _ j hj)
              rw [HM.out] at hst2
              have HS2 := Lib.hid hst2
              have HB2 := Lib.hid (HBD.out.trans hst.2)
              clear hst hst2 hown8 hg8 hat8 q8 f8 hbx
              go_wp2_with fail
              go_roundw
              case rel => exact ⟨q + 1, _, by omega, by go_num, by rw [HL1b.out]; exact HS2.out, HB2.out⟩
              case measure => simp [intOf]; omega
            · refine step_call_g rfl 63 _ _ #[.int .u8 (x1.toNat : Int)] rfl rfl (enters_of Tryz.func63 (by as_aux_lemma => kernel_rfl) rfl) ((digit_any x1 _).mono ?_)
              rintro e w' ⟨rfl, e0⟩
              subst w'
              refine ⟨_, rfl, ?_⟩
              refine hK.out _ _ trivial (fun _ => ?_)
              clear hK K
              (try simp only [Act.put, List.setIfInBounds_toArray, List.set_cons_zero, List.set_cons_succ])
              refine wpAnyH_ready (rs := [2, 12]) (by as_aux_lemma => kernel_rfl) (by simp) ?_
              refine AllReadyH.cons (o := { dst := some 116, op := Op.load 29 (Operand.tmp 115), type := 29, pos := "ref.go:232", after := #[{ on := 1, ground := Ground.data }], guard := none }) rfl (fun K hK => ?_) (AllReadyH.cons (o := { dst := some 126, op := Op.buildSlice 29 1 #[(0, Operand.tmp 125)], type := 29, pos := "ref.go:232", after := #[{ on := 11, ground := Ground.data }], guard := none }) rfl (fun K hK => ?_) AllReadyH.nil)
              · go_simp
                refine hK.out _ _ trivial (fun _ => ?_)
                clear hK K
                (try simp only [Act.put, List.setIfInBounds_toArray, List.set_cons_zero, List.set_cons_succ])
                refine wpAnyH_ready (rs := [12]) (by as_aux_lemma => kernel_rfl) (by simp) ?_
                refine AllReadyH.cons (o := { dst := some 126, op := Op.buildSlice 29 1 #[(0, Operand.tmp 125)], type := 29, pos := "ref.go:232", after := #[{ on := 11, ground := Ground.data }], guard := none }) rfl (fun K hK => ?_) AllReadyH.nil
                go_simp
                refine hK.out _ _ trivial (fun _ => ?_)
                clear hK K
                (try simp only [Act.put, List.setIfInBounds_toArray, List.set_cons_zero, List.set_cons_succ])
                refine wpAnyH_ready (rs := [13]) (by as_aux_lemma => kernel_rfl) (by simp) ?_
                refine AllReadyH.cons (o := { dst := some 127, op := Op.call { callee := Callee.builtin Builtin.append, args := #[Operand.tmp 116, Operand.tmp 126], argTypes := #[29, 29] }, type := 29, pos := "ref.go:232", after := #[{ on := 2, ground := Ground.data }, { on := 12, ground := Ground.data }, { on := 11, ground := Ground.chain }], guard := none }) rfl (fun K hK => ?_) AllReadyH.nil
                refine step_append_at rfl (.tmp 116) (.tmp 126) rfl (B + 1) (v 2) L2 rfl HNA.out (by have := HLN2.out; omega) HSZ.out ⟨wD.heap.size, 0, none⟩ (digR x1) rfl (cell_new_at _ _ _ _ _ _ rfl rfl) (fun g8 cap8 w8 hown8 hg8 hat8 => ?_)
                refine hK.out _ _ trivial (fun _ => ?_)
                clear hK K
                (try simp only [Act.put, List.setIfInBounds_toArray, List.set_cons_zero, List.set_cons_succ])
                have hbx := HSD.out.grown (i := 2) (by omega) hg8
                have q8 := bx_cell hbx 2 rfl
                have f8 := bx_frozen hbx 2
                have hT : True := trivial
                refine wpAnyH_take (i := 15) (oi := { dst := some 129, op := Op.indexAddr 30 (Operand.tmp 128) (Operand.const (Value.int IntKind.i64 1)), type := 0, pos := "ref.go:232", after := #[{ on := 14, ground := Ground.data }, { on := 0, ground := Ground.phase }, { on := 1, ground := Ground.phase }, { on := 2, ground := Ground.phase }, { on := 3, ground := Ground.phase }, { on := 4, ground := Ground.phase }, { on := 5, ground := Ground.phase }, { on := 6, ground := Ground.phase }, { on := 7, ground := Ground.phase }, { on := 8, ground := Ground.phase }, { on := 9, ground := Ground.phase }, { on := 10, ground := Ground.phase }, { on := 11, ground := Ground.phase }, { on := 12, ground := Ground.phase }, { on := 13, ground := Ground.phase }], guard := none }) (v := ?_) rfl (by as_aux_lemma => kernel_rfl) (by as_aux_lemma => kernel_rfl) (by as_aux_lemma => kernel_rfl) (fun _ _ _ h => h) (Or.inl ⟨by rfl, ?_⟩) (by assumption) ?_
                rotate_left
                · ((intro w hSw; (try dsimp only at hSw); go_simp); try with_reducible rfl)
                (try simp only [Act.put, List.setIfInBounds_toArray, List.set_cons_zero, List.set_cons_succ])
                refine wpAnyH_ready (rs := [16]) (by as_aux_lemma => kernel_rfl) (by simp) ?_
                refine AllReadyH.cons (o := { dst := none, op := Op.store 29 (Operand.tmp 129) (Operand.tmp 127), type := 0, pos := "ref.go:232", after := #[{ on := 15, ground := Ground.data }, { on := 13, ground := Ground.data }, { on := 13, ground := Ground.chain }, { on := 0, ground := Ground.phase }, { on := 1, ground := Ground.phase }, { on := 2, ground := Ground.phase }, { on := 3, ground := Ground.phase }, { on := 4, ground := Ground.phase }, { on := 5, ground := Ground.phase }, { on := 6, ground := Ground.phase }, { on := 7, ground := Ground.phase }, { on := 8, ground := Ground.phase }, { on := 9, ground := Ground.phase }, { on := 10, ground := Ground.phase }, { on := 11, ground := Ground.phase }, { on := 12, ground := Ground.phase }, { on := 13, ground := Ground.phase }], guard := none }) rfl (fun K hK => ?_) AllReadyH.nil
                go_simp
                refine hK.out _ _ trivial (fun _ => ?_)
                clear hK K
                refine wpAnyH_done (by as_aux_lemma => kernel_rfl) ?_ _
                have hst := HSD.out.push (i := 2) (by omega) hown8 hg8 (hat8.imp (fun e => e.symm) (fun e => congrArg some e))
                have hst2 := hst.1.list (fun j hj => l3_2 _ _ _ _ j hj)
                rw [HM.out] at hst2
                have HS2 := Lib.hid hst2
                have HB2 := Lib.hid (HBD.out.trans hst.2)
                clear hst hst2 hown8 hg8 hat8 q8 f8 hbx
                go_wp2_with fail
                go_roundw
                case rel => exact ⟨q + 1, _, by omega, by go_num, by rw [HL1b.out]; exact HS2.out, HB2.out⟩
                case measure => simp [intOf]; omega
              · go_simp
                refine hK.out _ _ trivial (fun _ => ?_)
                clear hK K
                (try simp only [Act.put, List.setIfInBounds_toArray, List.set_cons_zero, List.set_cons_succ])
                have c9 := cell_alloc_keep c2 (.cells #[.int .i64 (digR x1)] 3)
                refine wpAnyH_ready (rs := [2]) (by as_aux_lemma => kernel_rfl) (by simp) ?_
                refine AllReadyH.cons (o := { dst := some 116, op := Op.load 29 (Operand.tmp 115), type := 29, pos := "ref.go:232", after := #[{ on := 1, ground := Ground.data }], guard := none }) rfl (fun K hK => ?_) AllReadyH.nil
                go_simp
                refine hK.out _ _ trivial (fun _ => ?_)
                clear hK K
                (try simp only [Act.put, List.setIfInBounds_toArray, List.set_cons_zero, List.set_cons_succ])
                refine wpAnyH_ready (rs := [13]) (by as_aux_lemma => kernel_rfl) (by simp) ?_
                refine AllReadyH.cons (o := { dst := some 127, op := Op.call { callee := Callee.builtin Builtin.append, args := #[Operand.tmp 116, Operand.tmp 126], argTypes := #[29, 29] }, type := 29, pos := "ref.go:232", after := #[{ on := 2, ground := Ground.data }, { on := 12, ground := Ground.data }, { on := 11, ground := Ground.chain }], guard := none }) rfl (fun K hK => ?_) AllReadyH.nil
                refine step_append_at rfl (.tmp 116) (.tmp 126) rfl (B + 1) (v 2) L2 rfl HNA.out (by have := HLN2.out; omega) HSZ.out ⟨wD.heap.size, 0, none⟩ (digR x1) rfl (cell_new_at _ _ _ _ _ _ rfl rfl) (fun g8 cap8 w8 hown8 hg8 hat8 => ?_)
                refine hK.out _ _ trivial (fun _ => ?_)
                clear hK K
                (try simp only [Act.put, List.setIfInBounds_toArray, List.set_cons_zero, List.set_cons_succ])
                have hbx := HSD.out.grown (i := 2) (by omega) hg8
                have q8 := bx_cell hbx 2 rfl
                have f8 := bx_frozen hbx 2
                have hT : True := trivial
                refine wpAnyH_take (i := 15) (oi := { dst := some 129, op := Op.indexAddr 30 (Operand.tmp 128) (Operand.const (Value.int IntKind.i64 1)), type := 0, pos := "ref.go:232", after := #[{ on := 14, ground := Ground.data }, { on := 0, ground := Ground.phase }, { on := 1, ground := Ground.phase }, { on := 2, ground := Ground.phase }, { on := 3, ground := Ground.phase }, { on := 4, ground := Ground.phase }, { on := 5, ground := Ground.phase }, { on := 6, ground := Ground.phase }, { on := 7, ground := Ground.phase }, { on := 8, ground := Ground.phase }, { on := 9, ground := Ground.phase }, { on := 10, ground := Ground.phase }, { on := 11, ground := Ground.phase }, { on := 12, ground := Ground.phase }, { on := 13, ground := Ground.phase }], guard := none }) (v := ?_) rfl (by as_aux_lemma => kernel_rfl) (by as_aux_lemma => kernel_rfl) (by as_aux_lemma => kernel_rfl) (fun _ _ _ h => h) (Or.inl ⟨by rfl, ?_⟩) (by assumption) ?_
                rotate_left
                · ((intro w hSw; (try dsimp only at hSw); go_simp); try with_reducible rfl)
                (try simp only [Act.put, List.setIfInBounds_toArray, List.set_cons_zero, List.set_cons_succ])
                refine wpAnyH_ready (rs := [16]) (by as_aux_lemma => kernel_rfl) (by simp) ?_
                refine AllReadyH.cons (o := { dst := none, op := Op.store 29 (Operand.tmp 129) (Operand.tmp 127), type := 0, pos := "ref.go:232", after := #[{ on := 15, ground := Ground.data }, { on := 13, ground := Ground.data }, { on := 13, ground := Ground.chain }, { on := 0, ground := Ground.phase }, { on := 1, ground := Ground.phase }, { on := 2, ground := Ground.phase }, { on := 3, ground := Ground.phase }, { on := 4, ground := Ground.phase }, { on := 5, ground := Ground.phase }, { on := 6, ground := Ground.phase }, { on := 7, ground := Ground.phase }, { on := 8, ground := Ground.phase }, { on := 9, ground := Ground.phase }, { on := 10, ground := Ground.phase }, { on := 11, ground := Ground.phase }, { on := 12, ground := Ground.phase }, { on := 13, ground := Ground.phase }], guard := none }) rfl (fun K hK => ?_) AllReadyH.nil
                go_simp
                refine hK.out _ _ trivial (fun _ => ?_)
                clear hK K
                refine wpAnyH_done (by as_aux_lemma => kernel_rfl) ?_ _
                have hst := HSD.out.push (i := 2) (by omega) hown8 hg8 (hat8.imp (fun e => e.symm) (fun e => congrArg some e))
                have hst2 := hst.1.list (fun j hj => l3_2 _ _ _ _ j hj)
                rw [HM.out] at hst2
                have HS2 := Lib.hid hst2
                have HB2 := Lib.hid (HBD.out.trans hst.2)
                clear hst hst2 hown8 hg8 hat8 q8 f8 hbx
                go_wp2_with fail
                go_roundw
                case rel => exact ⟨q + 1, _, by omega, by go_num, by rw [HL1b.out]; exact HS2.out, HB2.out⟩
                case measure => simp [intOf]; omega
        · obtain rfl : q = ks.length := by omega
          have wk4 : IntKind.i64.wrap ((bc : Int) + 2 * (ks.length : Int) + 3) = (bc : Int) + 2 * (ks.length : Int) + 3 := IntWalk.i64_in _ (by omega)
          have wk5 : IntKind.i64.wrap ((s.length : Int) - 2) = (s.length : Int) - 2 := IntWalk.i64_in _ (by omega)
          clear wk1 wk2 wk3
          go_wp2_with fail
          obtain ⟨m, hm⟩ : ∃ m, m = bc + 2 * ks.length + 3 := ⟨_, rfl⟩
          obtain ⟨T, hT⟩ : ∃ T, T = s.length - 2 - m := ⟨_, rfl⟩
          have hT2 : T ≤ 2 := by omega
          have hTs : m + T + 2 = s.length := by omega
          have e3 : (bc : Int) + 2 * (ks.length : Int) + 3 = (m : Int) := by omega
          have HTS := Lib.hid (And.intro hTs (And.intro hm hT))
          clear hT hm hTs
          go_loopw [12] (fun v12 wr => ∃ (q : Nat), q ≤ T ∧ v12 = .int .i64 ((m : Int) + (q : Int)) ∧ PSt (B + 1) B v (l3 Lc L1 L2) (rtR ((s.drop m).take q)) d wr ∧ Below B w0 wr) (fun v12 _ => (m + T - intOf v12).toNat)
          case atStart => exact ⟨0, Nat.zero_le _, by rw [e3]; simp, HST.out, HBW.out⟩
          case round =>
            clear HST HBW e3
            obtain ⟨q, hq, rfl, hst, hbw⟩ := hrel
            have hsT := HTS.out.1
            have hrt := rtR_in ((s.drop m).take q) (by rw [List.length_take]; omega)
            by_cases hlt : q < T
            · have t3 : decide ((m : Int) + (q : Int) < (s.length : Int) - 2) = true := by rw [decide_eq_true_eq]; omega
              have b3 : (0 : Int) ≤ (m : Int) + (q : Int) := by omega
              have b4 : (m : Int) + (q : Int) < (s.length : Int) := by omega
              have b5 : m + q < s.length := by omega
              have hlt' : ((m : Int) + (q : Int)).toNat < (⟨s.toArray⟩ : ByteArray).size := by rw [show ((m : Int) + (q : Int)).toNat = m + q by omega]; simpa [ByteArray.size] using b5
              obtain ⟨x1, hxe⟩ : ∃ x1, (⟨s.toArray⟩ : ByteArray)[((m : Int) + (q : Int)).toNat]'hlt' = x1 := ⟨_, rfl⟩
              have hX : s[m + q]?.getD 0 = x1 := by rw [← hxe, bget, show ((m : Int) + (q : Int)).toNat = m + q by omega]
              have hM : 10 * rtR ((s.drop m).take q) + digR x1 = rtR ((s.drop m).take (q + 1)) := by
                rw [List.take_add_one, List.getElem?_drop, List.getElem?_eq_getElem b5, Option.toList_some, rtR_app]
                rw [List.getElem?_eq_getElem b5, Option.getD_some] at hX
                rw [hX]
              have hdg := digR_in x1
              have HM := Lib.hid hM
              clear hM hX hsT
              generalize rtR ((s.drop m).take q) = rq at *
              have y0 : IntKind.i64.wrap (10 * rq) = 10 * rq := IntWalk.i64_in _ (by omega)
              have y1 : IntKind.i64.wrap (10 * rq + digR x1) = 10 * rq + digR x1 := IntWalk.i64_in _ (by omega)
              have y2 : IntKind.i64.wrap ((m : Int) + (q : Int) + 1) = (m : Int) + (q : Int) + 1 := IntWalk.i64_in _ (by have := HTS.out; omega)
              go_upto_region 26 with (fail)
              have hsd := hst.up (Below.refl _ wr).drew
              have hbd := hbw.trans (((Below.refl _ wr).drew).mono (Nat.le_of_lt hst.size))
              refine wp_region_quiet_tail 8 (fun W => W = wr.drew) rfl (by as_aux_lemma => kernel_rfl) (by as_aux_lemma => kernel_rfl) ?_
              generalize wr.drew = wD at *
              obtain ⟨-, -, -, c3, -, hf⟩ := hsd.cells
              have f3 := hf 3
              have HSD := Lib.hid hsd
              have HBD := Lib.hid hbd
              clear hsd hbd hst hbw hf
              simp only [List.take_succ_cons, List.take_zero, List.drop_succ_cons, List.drop_zero]
              iterate 6
                refine wpQuiet_val (v := ?_) (by rfl) ?_ ?_
                rotate_left
                · ((intro W hW; (try cases hW); go_simp); try with_reducible rfl)
                (try simp only [Act.put, List.setIfInBounds_toArray, List.set_cons_zero, List.set_cons_succ])
              refine wpQuiet_val (v := .int .i64 (digR x1)) (by rfl) (fun W hW => ?_) ?_
              · cases hW
                go_simp
                exact (digit_any x1 _).mono fun e w' ⟨he, h0⟩ => ⟨he, h0⟩
              (try simp only [Act.put, List.setIfInBounds_toArray, List.set_cons_zero, List.set_cons_succ])
              refine wpQuiet_val (v := ?_) (by rfl) ?_ ?_
              rotate_left
              · ((intro W hW; (try cases hW); go_simp); try with_reducible rfl)
              (try simp only [Act.put, List.setIfInBounds_toArray, List.set_cons_zero, List.set_cons_succ])
              refine wpQuiet_nil (fun W hW => ?_)
              subst hW
              go_wp2_with fail
              have hst := HSD.out.rights (10 * rq + digR x1)
              rw [HM.out] at hst
              rw [HM.out]
              have HS2 := Lib.hid hst.1
              have HB2 := Lib.hid (HBD.out.trans hst.2)
              clear hst
              go_roundw
              case rel => exact ⟨q + 1, by omega, by go_num, HS2.out, HB2.out⟩
              case measure => simp [intOf]; omega
            · obtain rfl : q = T := by omega
              have t3 : decide ((m : Int) + (q : Int) < (s.length : Int) - 2) = false := by rw [decide_eq_false_iff_not]; omega
              have hp : PP = ⟨Lc, L1, L2, rtR ((s.drop m).take q), d⟩ := by
                rw [← HPP.out]
                unfold rfP
                rw [HLC.out, HL1.out, HL2.out, HD.out, ← HTS.out.2.1, ← HTS.out.2.2]
              have hfit : PosFit PP := by
                rw [hp]
                refine ⟨?_, ?_, ?_⟩
                · show Lc.length ≤ maxLen
                  rw [← HLC.out, List.length_map, List.length_take]; unfold maxLen; omega
                · show L1.length ≤ maxLen
                  rw [← HL1.out, List.length_map, List.length_take]; unfold maxLen; omega
                · show L2.length ≤ maxLen
                  rw [← HL2.out, List.length_map, List.length_take]; unfold maxLen; omega
              clear HPP HTS hrt hsT HD
              generalize rtR ((s.drop m).take q) = rt at *
              obtain ⟨hbox, hlt2, hown, -⟩ := hst
              have o0 : OwnInts (B + 1) wr (v 0) Lc := hown 0 (by omega)
              have o1 : OwnInts (B + 1) wr (v 1) L1 := hown 1 (by omega)
              have o2 : OwnInts (B + 1) wr (v 2) L2 := hown 2 (by omega)
              clear hown HLC HL1 HL2
              obtain ⟨e0, e1, e2, e3, e4⟩ : Lc = PP.cells ∧ L1 = PP.h0 ∧ L2 = PP.h1 ∧ rt = PP.rights ∧ d = PP.side := by rw [hp]; exact ⟨rfl, rfl, rfl, rfl, rfl⟩
              clear hp
              subst e0
              subst e1
              subst e2
              subst e3
              subst e4
              generalize v 0 = u0 at *
              generalize v 1 = u1 at *
              generalize v 2 = u2 at *
              obtain ⟨A0, K0, rfl, -⟩ := o0.ints
              obtain ⟨A1, K1, rfl, -⟩ := o1.ints
              obtain ⟨A2, K2, rfl, -⟩ := o2.ints
              have hIn : PosIn wr.heap.size wr A0 A1 A2 PP := ⟨own_ints2 o0, own_ints2 o1, own_ints2 o2⟩
              obtain ⟨hG, -, -, hbw0⟩ := HF.out wr hbw
              have hsz := bx_lt hbox
              have HVA := Lib.hid (rvalid_any bc r ks vn vt vm vc vb ve PP ak A0 A1 A2 ck K0 K1 K2 wr.heap.size wr hr hks hfit (Nat.le_refl _) hIn (hK.to hbw0 hN (Nat.le_trans hN hbw0.size)))
              have HO := Lib.hid (And.intro o0 (And.intro o1 o2))
              have HBX := Lib.hid hbox
              have HIN := Lib.hid hIn
              have HFW := Lib.hid (fun W (h : Below wr.heap.size wr W) => HF.out W (hbw.trans (h.mono (Nat.le_of_lt hsz))))
              have HKK := Lib.hid hK
              unfold PosV at HVA
              have q0 := bx_cell hbox 0 rfl
              have q1 := bx_cell hbox 1 rfl
              have q2 := bx_cell hbox 2 rfl
              have q3 := bx_cell hbox 3 rfl
              have q4 := bx_cell hbox 4 rfl
              have g0 := bx_cell hG 0 rfl
              have g1 := bx_cell hG 1 rfl
              have g2 := bx_cell hG 2 rfl
              have g3 := bx_cell hG 3 rfl
              have g4 := bx_cell hG 4 rfl
              have g5 := bx_cell hG 5 rfl
              have g6 := bx_cell hG 6 rfl
              have g7 := bx_cell hG 7 rfl
              have g8 := bx_cell hG 8 rfl
              clear o0 o1 o2 hbox hIn hG hbw0 hbw hfit HF
              cases hv : posB bc r ks PP with
              | false =>
                rw [hv] at HVA
                have hq : parseOk bc r ks PP s = false := by unfold parseOk; rw [hv]; rfl
                have HQ2 : Hid (posZero = QP ∧ 3 = QZ) := Lib.hid (by have := HQ.out; rw [hq] at this; exact this)
                clear hv hq HQ
                go_wp2_with fail
                refine HVA.out.mono ?_
                rintro e wF ⟨rfl, hbF⟩
                obtain ⟨-, hRF, hDF, hbwF⟩ := HFW.out wF hbF
                clear q0 q1 q2 q3 q4 g0 g1 g2 g3 g4 g5 g6 g7 g8
                have r0 := bx_cell hRF 0 rfl
                have f0 := bx_frozen hRF 0
                have r1 := bx_cell hRF 1 rfl
                have f1 := bx_frozen hRF 1
                have r2 := bx_cell hRF 2 rfl
                have f2 := bx_frozen hRF 2
                have r3 := bx_cell hRF 3 rfl
                have f3 := bx_frozen hRF 3
                have r4 := bx_cell hRF 4 rfl
                have f4 := bx_frozen hRF 4
                have r5 := bx_cell hRF 5 rfl
                have f5 := bx_frozen hRF 5
                have d0 := bx_cell hDF 0 rfl
                have d1 := bx_cell hDF 1 rfl
                have d2 := bx_cell hDF 2 rfl
                have d3 := bx_cell hDF 3 rfl
                have d4 := bx_cell hDF 4 rfl
                have d5 := bx_cell hDF 5 rfl
                have HB := Lib.hid hbwF
                have HRF := Lib.hid hRF
                clear hRF hDF hbwF hbF
                go_wp2
                have hX := set6_block HRF.out (.slice none 0 0) (.slice none 0 0) (.slice none 0 0) (.int .i64 0) (.int .i64 0) (.int .i64 3)
                refine bodyPost_ret_by (v := .agg #[.slice none 0 0, .slice none 0 0, .slice none 0 0, .int .i64 0, .int .i64 0, .int .i64 3]) (results_cell_row rfl _ _ (w.heap.size + 1) 74 _ (0, 0) _ rfl hX Tryz.underlying74 rfl info_parsed) rfl ?_
                exact ⟨zeroA, HQ2.out.1, by rw [← HQ2.out.2]; rfl, zeroA_own _ _, HB.out.trans ((set6_alters wF (w.heap.size + 1) (.slice none 0 0) (.slice none 0 0) (.slice none 0 0) (.int .i64 0) (.int .i64 0) (.int .i64 3)).below HB.out.size (fun k hk => by have hk : k = w.heap.size + 1 := hk; omega))⟩
              | true =>
                rw [hv] at HVA
                have HV := Lib.hid hv
                clear hv
                have HPR := Lib.hid (fun W (h : Below wr.heap.size wr W) => rprint_any (.int .i64 (bc : Int)) vn vt (.slice ak ks.length ck) (.int .i64 (r : Int)) vm vc vb ve PP A0 A1 A2 K0 K1 K2 W.heap.size W ((posB_all HV.out).low hbc hr hks) (Nat.le_refl _) (by have i := HIN.out.up (Nat.le_refl _) h; exact ⟨i.cells.mono h.size, i.h0.mono h.size, i.h1.mono h.size⟩))
                unfold PosV at HPR
                go_wp2_with fail
                refine HVA.out.mono ?_
                rintro e wE ⟨rfl, hbE⟩
                have hbx2 := (hbE.block _ (bx_lt HBX.out)).trans HBX.out
                obtain ⟨hG2, -, -, -⟩ := HFW.out wE hbE
                clear q0 q1 q2 q3 q4 g0 g1 g2 g3 g4 g5 g6 g7 g8
                have HPE := Lib.hid (HPR.out wE hbE)
                have q0 := bx_cell hbx2 0 rfl
                have q1 := bx_cell hbx2 1 rfl
                have q2 := bx_cell hbx2 2 rfl
                have q3 := bx_cell hbx2 3 rfl
                have q4 := bx_cell hbx2 4 rfl
                have g0 := bx_cell hG2 0 rfl
                have g1 := bx_cell hG2 1 rfl
                have g2 := bx_cell hG2 2 rfl
                have g3 := bx_cell hG2 3 rfl
                have g4 := bx_cell hG2 4 rfl
                have g5 := bx_cell hG2 5 rfl
                have g6 := bx_cell hG2 6 rfl
                have g7 := bx_cell hG2 7 rfl
                have g8 := bx_cell hG2 8 rfl
                have HBE := Lib.hid hbE
                clear hbx2 hG2 HPR hbE
                go_wp2_with fail
                refine HPE.out.mono ?_
                rintro e wF ⟨rfl, hbF0⟩
                have hbF := below_step HBE.out hbF0
                clear hbF0
                obtain ⟨tx, htx⟩ : ∃ tx, textP PP = tx := ⟨_, rfl⟩
                rw [htx]
                by_cases hts : tx = s
                · have hq : parseOk bc r ks PP s = true := by rw [parseOk_iff]; exact ⟨HV.out, htx.trans hts⟩
                  have HQ2 : Hid (PP = QP ∧ 0 = QZ) := Lib.hid (by have := HQ.out; rw [hq] at this; exact this)
                  clear hq HQ htx
                  subst hts
                  have hbx2 := (hbF.block _ (bx_lt HBX.out)).trans HBX.out
                  obtain ⟨-, hRF, hDF, hbwF⟩ := HFW.out wF hbF
                  clear q0 q1 q2 q3 q4 g0 g1 g2 g3 g4 g5 g6 g7 g8
                  have q0 := bx_cell hbx2 0 rfl
                  have q1 := bx_cell hbx2 1 rfl
                  have q2 := bx_cell hbx2 2 rfl
                  have q3 := bx_cell hbx2 3 rfl
                  have q4 := bx_cell hbx2 4 rfl
                  have r0 := bx_cell hRF 0 rfl
                  have f0 := bx_frozen hRF 0
                  have r1 := bx_cell hRF 1 rfl
                  have f1 := bx_frozen hRF 1
                  have r2 := bx_cell hRF 2 rfl
                  have f2 := bx_frozen hRF 2
                  have r3 := bx_cell hRF 3 rfl
                  have f3 := bx_frozen hRF 3
                  have r4 := bx_cell hRF 4 rfl
                  have f4 := bx_frozen hRF 4
                  have r5 := bx_cell hRF 5 rfl
                  have f5 := bx_frozen hRF 5
                  have s1 : (tx == tx) = true := by simp
                  have HB := Lib.hid hbwF
                  have HRF := Lib.hid hRF
                  have HBF := Lib.hid hbF
                  clear hbx2 hRF hDF hbwF hbF
                  go_wp2
                  have hX := set6_block HRF.out (.slice A0 PP.cells.length K0) (.slice A1 PP.h0.length K1) (.slice A2 PP.h1.length K2) (.int .i64 PP.rights) (.int .i64 PP.side) (.int .i64 0)
                  have hal := set6_alters wF (w.heap.size + 1) (.slice A0 PP.cells.length K0) (.slice A1 PP.h0.length K1) (.slice A2 PP.h1.length K2) (.int .i64 PP.rights) (.int .i64 PP.side) (.int .i64 0)
                  have hown : ∀ (a : Option Addr) (k c : Nat) (l : List Int), OwnInts (B + 1) wr (.slice a k c) l → OwnInts w.heap.size (set6 wF (w.heap.size + 1) (.slice A0 PP.cells.length K0) (.slice A1 PP.h0.length K1) (.slice A2 PP.h1.length K2) (.int .i64 PP.rights) (.int .i64 PP.side) (.int .i64 0)) (.slice a k c) l := fun a k c l ho =>
                    OwnInts.mono ((ho.alters (S := fun _ => False) (Alters.of_below HBF.out) (fun _ h => h.elim)).alters hal (fun k hk hv => by have hk : k = w.heap.size + 1 := hk; have := (World.ownsRow.lt ho k hv.symm).1; have := HRB.out; omega)) (by have := HRB.out; omega)
                  refine bodyPost_ret_by (v := .agg #[.slice A0 PP.cells.length K0, .slice A1 PP.h0.length K1, .slice A2 PP.h1.length K2, .int .i64 PP.rights, .int .i64 PP.side, .int .i64 0]) (results_cell_row rfl _ _ (w.heap.size + 1) 74 _ (0, 0) _ rfl hX Tryz.underlying74 rfl info_parsed) rfl ?_
                  exact ⟨⟨PP, A0, A1, A2, K0, K1, K2⟩, HQ2.out.1, by rw [← HQ2.out.2], ⟨hown _ _ _ _ HO.out.1, hown _ _ _ _ HO.out.2.1, hown _ _ _ _ HO.out.2.2⟩, HB.out.trans (hal.below HB.out.size (fun k hk => by have hk : k = w.heap.size + 1 := hk; omega))⟩
                · have hq : parseOk bc r ks PP s = false := by cases hc : parseOk bc r ks PP s with
                    | true => exact absurd (htx.symm.trans (parseOk_iff.1 hc).2) hts
                    | false => rfl
                  have HQ2 : Hid (posZero = QP ∧ 3 = QZ) := Lib.hid (by have := HQ.out; rw [hq] at this; exact this)
                  clear hq HQ htx
                  have s1 : (tx != s) = true := by rw [bne_iff_ne]; exact hts
                  have s2 : decide (tx = s) = false := decide_eq_false hts
                  have s3 : (tx == s) = false := by rw [beq_eq_false_iff_ne]; exact hts
                  obtain ⟨-, hRF, hDF, hbwF⟩ := HFW.out wF hbF
                  clear q0 q1 q2 q3 q4 g0 g1 g2 g3 g4 g5 g6 g7 g8
                  have r0 := bx_cell hRF 0 rfl
                  have f0 := bx_frozen hRF 0
                  have r1 := bx_cell hRF 1 rfl
                  have f1 := bx_frozen hRF 1
                  have r2 := bx_cell hRF 2 rfl
                  have f2 := bx_frozen hRF 2
                  have r3 := bx_cell hRF 3 rfl
                  have f3 := bx_frozen hRF 3
                  have r4 := bx_cell hRF 4 rfl
                  have f4 := bx_frozen hRF 4
                  have r5 := bx_cell hRF 5 rfl
                  have f5 := bx_frozen hRF 5
                  have d0 := bx_cell hDF 0 rfl
                  have d1 := bx_cell hDF 1 rfl
                  have d2 := bx_cell hDF 2 rfl
                  have d3 := bx_cell hDF 3 rfl
                  have d4 := bx_cell hDF 4 rfl
                  have d5 := bx_cell hDF 5 rfl
                  have HB := Lib.hid hbwF
                  have HRF := Lib.hid hRF
                  clear hRF hDF hbwF hbF
                  go_wp2
                  have hX := set6_block HRF.out (.slice none 0 0) (.slice none 0 0) (.slice none 0 0) (.int .i64 0) (.int .i64 0) (.int .i64 3)
                  refine bodyPost_ret_by (v := .agg #[.slice none 0 0, .slice none 0 0, .slice none 0 0, .int .i64 0, .int .i64 0, .int .i64 3]) (results_cell_row rfl _ _ (w.heap.size + 1) 74 _ (0, 0) _ rfl hX Tryz.underlying74 rfl info_parsed) rfl ?_
                  exact ⟨zeroA, HQ2.out.1, by rw [← HQ2.out.2]; rfl, zeroA_own _ _, HB.out.trans ((set6_alters wF (w.heap.size + 1) (.slice none 0 0) (.slice none 0 0) (.slice none 0 0) (.int .i64 0) (.int .i64 0) (.int .i64 3)).below HB.out.size (fun k hk => by have hk : k = w.heap.size + 1 := hk; omega))⟩
end Go.Proofs.YtphhkfelpckilaaGreatDoor
