/-
  Of the reference: half, by which a list of positions is sorted.
  Of the reference: Sort.
  Find in no list at all.
-/
import Derived.Test.YtphhkfelpckilaaGreatDoorPSrtA
import Derived.Deep.QuietTactic
import Derived.Test.YtphhkfelpckilaaGreatDoorDFind
namespace Go.Proofs.YtphhkfelpckilaaGreatDoor
open Go Go.RowKit Go.Lib Go.Sort
attribute [local irreducible] Go.wpQuiet

theorem le_trans_P {a b c : PosS} (h1 : cmpP a b ≠ 1) (h2 : cmpP b c ≠ 1) : cmpP a c ≠ 1 := by
  have r1 := cmpP_ok.rng a b
  have r2 := cmpP_ok.rng b c
  rcases r1 with h | h | h
  · rcases r2 with k | k | k
    · have := cmpP_trans h k; omega
    · rw [← (cmpP_ok.eq0 b c).1 k]; omega
    · exact absurd k h2
  · rw [(cmpP_ok.eq0 a b).1 h]; exact h2
  · exact absurd h h1
def SrtLe (L : List PosA) : Prop := ∀ i j (hi : i < L.length) (hj : j < L.length), i ≤ j → cmpP (L[i]).p (L[j]).p ≠ 1
/-- While two lists are merged. -/
structure MI (O A B : List PosA) (i k : Nat) : Prop where
  mem : ∀ x, x ∈ O ↔ x ∈ A.take i ∨ x ∈ B.take k
  srt : SrtLe O
  leA : ∀ o ∈ O, ∀ j (h : j < A.length), i ≤ j → cmpP o.p (A[j]).p ≠ 1
  leB : ∀ o ∈ O, ∀ j (h : j < B.length), k ≤ j → cmpP o.p (B[j]).p ≠ 1
theorem MI.nil (A B : List PosA) : MI [] A B 0 0 := ⟨fun x => by simp, fun i j hi => by simp at hi, fun o ho => by simp at ho, fun o ho => by simp at ho⟩
theorem srtLe_app {O : List PosA} {y : PosA} (h : SrtLe O) (hy : ∀ o ∈ O, cmpP o.p y.p ≠ 1) : SrtLe (O ++ [y]) := by
  intro i j hi hj hij
  simp only [List.length_append, List.length_cons, List.length_nil] at hi hj
  by_cases h1 : j < O.length
  · rw [List.getElem_append_left (by omega), List.getElem_append_left h1]
    exact h i j (by omega) h1 hij
  · have e : j = O.length := by omega
    by_cases h2 : i < O.length
    · rw [List.getElem_append_left h2, List.getElem_append_right (by omega)]
      simp only [List.getElem_singleton]
      exact hy _ (List.getElem_mem _)
    · rw [List.getElem_append_right (by omega), List.getElem_append_right (by omega)]
      simp only [List.getElem_singleton]
      rw [cmpP_self]; omega
theorem take_mem (A : List PosA) {i : Nat} (h : i < A.length) (x : PosA) : x ∈ A.take (i + 1) ↔ x ∈ A.take i ∨ x = A[i] := by
  rw [List.take_add_one, List.mem_append, List.getElem?_eq_getElem h]
  simp
theorem MI.stepA {O A B : List PosA} {i k : Nat} (h : MI O A B i k) (hA : SrtLe A) (hi : i < A.length) (hB : ∀ j (h : j < B.length), k ≤ j → cmpP (A[i]).p (B[j]).p ≠ 1) : MI (O ++ [A[i]]) A B (i + 1) k := by
  refine ⟨fun x => ?_, srtLe_app h.srt (fun o ho => h.leA o ho i hi (Nat.le_refl _)), fun o ho j hj hij => ?_, fun o ho j hj hkj => ?_⟩
  · rw [List.mem_append, h.mem, take_mem A hi, List.mem_singleton]
    constructor
    · rintro ((h | h) | h)
      · exact .inl (.inl h)
      · exact .inr h
      · exact .inl (.inr h)
    · rintro ((h | h) | h)
      · exact .inl (.inl h)
      · exact .inr h
      · exact .inl (.inr h)
  · rcases List.mem_append.1 ho with ho | ho
    · exact h.leA o ho j hj (by omega)
    · obtain rfl : o = A[i] := by simpa using ho
      exact hA i j hi hj (by omega)
  · rcases List.mem_append.1 ho with ho | ho
    · exact h.leB o ho j hj hkj
    · obtain rfl : o = A[i] := by simpa using ho
      exact hB j hj hkj
theorem MI.stepB {O A B : List PosA} {i k : Nat} (h : MI O A B i k) (hB : SrtLe B) (hk : k < B.length) (hA : ∀ j (h : j < A.length), i ≤ j → cmpP (B[k]).p (A[j]).p ≠ 1) : MI (O ++ [B[k]]) A B i (k + 1) := by
  refine ⟨fun x => ?_, srtLe_app h.srt (fun o ho => h.leB o ho k hk (Nat.le_refl _)), fun o ho j hj hij => ?_, fun o ho j hj hkj => ?_⟩
  · rw [List.mem_append, h.mem, take_mem B hk, List.mem_singleton]
    constructor
    · rintro ((h | h) | h)
      · exact .inl h
      · exact .inr (.inl h)
      · exact .inr (.inr h)
    · rintro (h | h | h)
      · exact .inl (.inl h)
      · exact .inl (.inr h)
      · exact .inr h
  · rcases List.mem_append.1 ho with ho | ho
    · exact h.leA o ho j hj hij
    · obtain rfl : o = B[k] := by simpa using ho
      exact hA j hj hij
  · rcases List.mem_append.1 ho with ho | ho
    · exact h.leB o ho j hj (by omega)
    · obtain rfl : o = B[k] := by simpa using ho
      exact hB k j hk hj (by omega)
theorem PsIn.take {W : World} {a : Option Addr} {L : List PosA} (h : PsIn W a L) (m : Nat) : PsIn W a (L.take m) := by
  rcases h with rfl | ⟨b, off, e, h⟩
  · exact .inl (by simp)
  · refine .inr ⟨b, off, e, fun i c hi hc => ?_⟩
    have hi' : i < m ∧ i < L.length := by simp at hi; omega
    rw [h i c hi'.2 hc, List.getElem_take]
theorem PsAt.cellsO {W : World} {g off : Nat} {L : List PosA} (h : PsAt W g off L) {i : Nat} (hi : i < L.length) {x : PosA} (hx : L[i] = x) :
    W.cell? ⟨g, off + i * 5, none⟩ = some (.slice x.a x.p.cells.length x.c) ∧ W.cell? ⟨g, off + i * 5 + 1, none⟩ = some (.slice x.a0 x.p.h0.length x.c0) ∧ W.cell? ⟨g, off + i * 5 + 2, none⟩ = some (.slice x.a1 x.p.h1.length x.c1) ∧ W.cell? ⟨g, off + i * 5 + 3, none⟩ = some (.int .i64 x.p.rights) ∧ W.cell? ⟨g, off + i * 5 + 4, none⟩ = some (.int .i64 x.p.side) := by
  subst hx
  exact ⟨h i 0 hi (by omega), h i 1 hi (by omega), h i 2 hi (by omega), h i 3 hi (by omega), h i 4 hi (by omega)⟩
theorem PsAt.drop {W : World} {b off : Nat} {L : List PosA} (h : PsAt W b off L) (m : Nat) : PsAt W b (off + m * 5) (L.drop m) := by
  intro i c hi hc
  have hi' : m + i < L.length := by simp at hi; omega
  have := h (m + i) c hi' hc
  rw [List.getElem_drop, ← this]
  congr 2
  rw [Nat.add_mul]; omega
theorem ps_cap {n : Nat} {W : World} {g k cap : Nat} {L : List PosA} (h : OwnPs n W (.slice (some ⟨g, 0, none⟩) k cap) L) : L.length ≤ cap := by
  rcases h.2 with ⟨h0, _⟩ | ⟨g', cap', cur, hv, _, _, hn, _⟩
  · cases h0
  · cases hv; exact hn
/-- What half gives. -/
def HalfR (w : World) (L : List PosA) (e : Ending) (w' : World) : Prop := ∃ (H : List PosA) (a : Option Addr) (c : Nat), e = .returned (.slice a H.length c) ∧ H.length ≤ c ∧ PsIn w' a H ∧ (∀ x, x ∈ H ↔ x ∈ L) ∧ H.length = L.length ∧ SrtLe H ∧ Below w.heap.size w w'
set_option maxRecDepth 100000 in
set_option maxHeartbeats 1500000 in
theorem half_by (n : Nat) (IH : ∀ (L : List PosA) (a : Option Addr) (cap N : Nat) (w : World), L.length < n → L.length ≤ 100 → L.length ≤ cap → N ≤ w.heap.size → (∀ x ∈ L, AOk N w x) → PsIn w a L → Calls Tryz.prog 39 #[.slice a L.length cap] w (HalfR w L))
    (L : List PosA) (a : Option Addr) (cap0 N : Nat) (w : World) (hn : L.length = n) (hl : L.length ≤ 100) (hc : L.length ≤ cap0) (hN : N ≤ w.heap.size) (hL : ∀ x ∈ L, AOk N w x) (hP : PsIn w a L) :
    Calls Tryz.prog 39 #[.slice a L.length cap0] w (HalfR w L) := by
  by_cases h2 : L.length < 2
  · have t1 : decide (L.length < 2) = true := by simpa using h2
    have t1' : decide ((L.length : Int) < 2) = true := by simp; omega
    have HR : Hid (HalfR w L (.returned (.slice a L.length cap0)) w) := Lib.hid ⟨L, a, cap0, rfl, hc, hP, fun x => Iff.rfl, rfl, fun i j hi hj hij => by
      obtain rfl : i = j := by omega
      rw [cmpP_self]; omega, Below.refl _ _⟩
    clear hL hP IH
    go_enter Tryz.func39, Tryz.ntmps39
    go_wp2
    go_ret
    exact HR.out
  · have t1 : decide (L.length < 2) = false := by simpa using h2
    have t1' : decide ((L.length : Int) < 2) = false := by simp; omega
    obtain ⟨b, off, ha, hPA⟩ := (hP.resolve_left (by intro h; rw [h] at h2; simp at h2))
    subst ha
    obtain ⟨m, hm⟩ : ∃ m, L.length / 2 = m := ⟨_, rfl⟩
    have hm1 : 1 ≤ m ∧ m < L.length := by omega
    have hl1 : (L.take m).length = m := by rw [List.length_take]; omega
    have hl2 : (L.drop m).length = L.length - m := by rw [List.length_drop]
    have e1 : ((L.length : Nat) : Int).tdiv 2 = (m : Int) := by rw [← hm]; rfl
    have H1 := Lib.hid (fun W (h : Below w.heap.size w W) => IH (L.take m) (some ⟨b, off, none⟩) cap0 N W (by omega) (by omega) (by omega) (Nat.le_trans hN h.size) (fun x hx => (hL x (List.mem_of_mem_take hx)).up hN h) ((PsIn.take hP m).up h))
    have H2 := Lib.hid (fun W (h : Below w.heap.size w W) => IH (L.drop m) (some ⟨b, off + m * 5, none⟩) (cap0 - m) N W (by omega) (by omega) (by omega) (Nat.le_trans hN h.size) (fun x hx => (hL x (List.mem_of_mem_drop hx)).up hN h) (.inr ⟨b, off + m * 5, rfl, (hPA.drop m).up h⟩))
    rw [hl1] at H1
    rw [hl2] at H2
    have HM := Lib.hid hm
    have hi1 : IntKind.i64.wrap (m : Int) = (m : Int) := IntWalk.i64_in _ (by omega)
    have t3 : (0 : Int) ≤ (m : Int) := by omega
    have t4 : (m : Int) ≤ (cap0 : Int) := by omega
    have t5 : (m : Int) ≤ (L.length : Int) := by omega
    have t6 : (L.length : Int) ≤ (cap0 : Int) := by omega
    clear hm hl1 hl2 IH hPA hn
    go_enter Tryz.func39, Tryz.ntmps39
    go_wp2_with fail
    refine (H1.out w (Below.refl _ _)).mono ?_
    rintro e w1 ⟨A, aa, ca, rfl, hcA, hPA, hmA, hlA, hsA, hb1⟩
    have HLA := Lib.hid hlA
    clear hlA
    go_wp2_with fail
    refine (H2.out w1 hb1).mono ?_
    rintro e w2 ⟨B, ab, cb, rfl, hcB, hPB, hmB, hlB, hsB, hb12⟩
    have hb2 := below_step hb1 hb12
    have hPA2 := hPA.up hb12
    have hlab : A.length + B.length = L.length := by rw [HLA.out, hlB, List.length_take, List.length_drop]; omega
    have HOA : Hid (∀ x ∈ A, AOk N w2 x) := Lib.hid (fun x hx => (hL x (List.mem_of_mem_take ((hmA x).1 hx))).up hN hb2)
    have HOB : Hid (∀ x ∈ B, AOk N w2 x) := Lib.hid (fun x hx => (hL x (List.mem_of_mem_drop ((hmB x).1 hx))).up hN hb2)
    have HMM : Hid (∀ x, (x ∈ A ∨ x ∈ B) ↔ x ∈ L) := Lib.hid (fun x => by
      rw [hmA, hmB, ← List.mem_append, List.take_append_drop])
    have HPA2 := Lib.hid hPA2
    have HPB2 := Lib.hid hPB
    have HSA := Lib.hid hsA
    have HSB := Lib.hid hsB
    have HB2 := Lib.hid hb2
    have HLAB := Lib.hid hlab
    have hlab2 : A.length + B.length ≤ 100 := by omega
    have hs02 := hb2.size
    clear hPA hPA2 hPB hmA hmB HLA hlB hb1 hb12 hb2 hsA hsB hL hP H1 H2 hlab e1 hi1 t3 t4 t5 t6 t1 t1'
    have hoe := ps_empty w2
    go_upto_block 0 with (fail)
    go_wp2_with fail
    go_loopw [5, 6, 7] (fun v iv kv wr => ∃ (i k : Nat) (O : List PosA) (g cap : Nat), i ≤ A.length ∧ k ≤ B.length ∧ O.length = i + k ∧ v = .slice (some ⟨g, 0, none⟩) (i + k) cap ∧ iv = .int .i64 i ∧ kv = .int .i64 k ∧ Hid (MI O A B i k) ∧ OwnPs w2.heap.size wr (.slice (some ⟨g, 0, none⟩) (i + k) cap) O ∧ Below w2.heap.size w2 wr) (fun _ iv kv _ => A.length + B.length - ((intOf iv).toNat + (intOf kv).toNat))
    case atStart => exact ⟨0, 0, [], w2.heap.size, 0, Nat.zero_le _, Nat.zero_le _, rfl, rfl, rfl, rfl, Lib.hid (MI.nil A B), hoe, below_alloc (Below.refl _ _) _⟩
    case round =>
      clear hoe
      obtain ⟨i, k, O, g, cap, hi, hk, hOl, rfl, rfl, rfl, HMI, hO, hb⟩ := hrel
      have HOL := Lib.hid hOl
      clear hOl
      generalize wr = w5 at *
      have hs5 := hb.size
      have hik : i + k ≤ 100 := by omega
      have t3 : (0 : Int) ≤ (i : Int) := by omega
      have t4 : (0 : Int) ≤ (k : Int) := by omega
      by_cases hkB : k < B.length
      · have tk1 : decide (k < B.length) = true := by simpa using hkB
        have tk2 : decide ((k : Int) < (B.length : Int)) = true := by simpa using hkB
        have tk3 : decide (B.length ≤ k) = false := by simpa using hkB
        have tk4 : decide ((B.length : Int) ≤ (k : Int)) = false := by simpa using hkB
        have tk5 : (k : Int) < (B.length : Int) := by omega
        obtain ⟨bb, offB, hab, hPBx⟩ := (HPB2.out.resolve_left (by intro h; rw [h] at hkB; simp at hkB))
        subst hab
        obtain ⟨z, hz⟩ : ∃ z, B[k] = z := ⟨_, rfl⟩
        have HZ := Lib.hid hz
        by_cases hiA : i < A.length
        · have ti1 : decide (i < A.length) = true := by simpa using hiA
          have ti2 : decide ((i : Int) < (A.length : Int)) = true := by simpa using hiA
          have ti5 : (i : Int) < (A.length : Int) := by omega
          obtain ⟨ba, offA, haa, hPAx⟩ := (HPA2.out.resolve_left (by intro h; rw [h] at hiA; simp at hiA))
          subst haa
          obtain ⟨x, hx⟩ : ∃ x, A[i] = x := ⟨_, rfl⟩
          have HX := Lib.hid hx
          have hT := TwoB.of2 (hPAx.up hb) (hPBx.up hb) hiA hkB hx hz
          have hxo := (HOA.out x (by rw [← hx]; exact List.getElem_mem _)).up (Nat.le_trans hN hs02) hb
          have hzo := (HOB.out z (by rw [← hz]; exact List.getElem_mem _)).up (Nat.le_trans hN hs02) hb
          have hN5 : N ≤ w5.heap.size := by omega
          have HCM := Lib.hid (fun W (h : Below w5.heap.size w5 W) => rcompare_any x z N W (hxo.up hN5 h) (hzo.up hN5 h) (Nat.le_trans hN5 h.size))
          unfold PosA.val PosV at HCM
          have hrng := cmpP_ok.rng x.p z.p
          obtain ⟨C, hC⟩ : ∃ C, cmpP x.p z.p = C := ⟨_, rfl⟩
          have HC := Lib.hid hC
          rw [hC] at HCM hrng
          have HPA5 := Lib.hid hPAx
          have HPB5 := Lib.hid hPBx
          have HO := Lib.hid hO
          have HBB := Lib.hid hb
          clear hx hz hxo hzo hC hPAx hPBx hO hb
          go_upto_region 9 with (fail)
          refine wp_region_quiet (C := TwoB w5 ba (offA + i * 5) bb (offB + k * 5) x z) (by kernel_rfl) (by kernel_rfl) (hT.up (Below.refl _ _).drew) ?_
          dsimp only
          iterate 18
            refine wpQuiet_val (v := ?_) (by rfl) ?_ ?_
            rotate_left
            · ((intro W hW; (try cases hW); go_simp); try with_reducible rfl)
            (try simp only [Act.put, List.setIfInBounds_toArray, List.set_cons_zero, List.set_cons_succ])
          refine wpQuiet_val (v := .int .i64 C) (by rfl) (fun W hW => ?_) ?_
          · go_simp
            exact (HCM.out W hW.b).mono fun e w' ⟨he, hb⟩ => ⟨he, hW.up hb⟩
          (try simp only [Act.put, List.setIfInBounds_toArray, List.set_cons_zero, List.set_cons_succ])
          iterate 3
            refine wpQuiet_val (v := ?_) (by rfl) ?_ ?_
            rotate_left
            · ((intro W hW; (try cases hW); go_simp); try with_reducible rfl)
            (try simp only [Act.put, List.setIfInBounds_toArray, List.set_cons_zero, List.set_cons_succ])
          refine wpQuiet_nil (fun w6 hW => ?_)
          have hb56 := hW.b
          have hb6 := below_step HBB.out hb56
          have HB := Lib.hid hb6
          have hs56 := hb6.size
          have HOO := Lib.hid (HO.out.up hb56)
          clear hT hW HCM HO hb6
          by_cases hC1 : C = 1
          · have tc : decide (C ≤ 0) = false := by simp; omega
            subst hC1
            have HCY := Lib.hid (PsAt.cellsO (HPB5.out.up HB.out) hkB HZ.out)
            have HMJ := Lib.hid (HMI.out.stepB HSB.out hkB (fun j hj hij => le_trans_P (by rw [HZ.out, cmpP_ok.anti (x.p) (z.p), HC.out]; omega) (by have := HSA.out i j hiA hj hij; rw [HX.out] at this; exact this)))
            rw [HZ.out] at HMJ
            clear tc hb56 hrng HBB
            generalize z = y at *
            go_upto_region 12 with (fail)
            obtain ⟨c0, c1, c2, c3, c4⟩ := HCY.out
            have hOk : OwnPs w2.heap.size w6 (.slice (some ⟨g, 0, none⟩) O.length cap) O := by rw [HOL.out]; exact HOO.out
            have hrA : (w6.alloc (.cells #[.slice y.a y.p.cells.length y.c, .slice y.a0 y.p.h0.length y.c0, .slice y.a1 y.p.h1.length y.c1, .int .i64 y.p.rights, .int .i64 y.p.side] 32)).ownsRow w2.heap.size 32 5 (.slice (some ⟨g, 0, none⟩) (i + k) cap) (i + k) (O.flatMap PosA.enc) := by
              have := hOk.up (below_alloc (Below.refl _ w6) (.cells #[.slice y.a y.p.cells.length y.c, .slice y.a0 y.p.h0.length y.c0, .slice y.a1 y.p.h1.length y.c1, .int .i64 y.p.rights, .int .i64 y.p.side] 32))
              unfold OwnPs at this
              rw [HOL.out] at this
              exact this
            have HRA := Lib.hid hrA
            have HOK := Lib.hid hOk
            clear hrA hOk
            go_wp2_with (at_builtin; go_loud (refine wpList_pushG rfl 43 32 (.agg #[.slice none 0 0, .slice none 0 0, .slice none 0 0, .int .i64 0, .int .i64 0]) 5 88 Tryz.underlying43 info_pos6 rfl (by decide) (by decide) (.tmp 66) (.tmp 71) rfl w2.heap.size (.slice (some ⟨g, 0, none⟩) (i + k) cap) (i + k) (O.flatMap PosA.enc) rfl HRA.out (by omega) (by simp; omega) w6.heap.size 1 [.slice y.a y.p.cells.length y.c, .slice y.a0 y.p.h0.length y.c0, .slice y.a1 y.p.h1.length y.c1, .int .i64 y.p.rights, .int .i64 y.p.side] rfl rfl (World.alloc_heap_new _ _) (by simp [Value.oneCell']) ?_; intro g7 cap7 w7 hown7 hg7))
            rw [← HOL.out] at hown7 hg7
            obtain ⟨q1, q2⟩ := addRow (y := y) hs56 HOK.out hg7 hown7
            rw [HOL.out] at q1
            have Q1 := Lib.hid q1
            have Q2 := Lib.hid (HB.out.trans q2)
            clear hown7 hg7 q1 q2 c0 c1 c2 c3 c4
            go_roundw
            case rel => exact ⟨i, k + 1, O ++ [y], g7, cap7, hi, by omega, by rw [List.length_append, HOL.out]; rfl, rfl, rfl, by go_num, HMJ, Q1.out, Q2.out⟩
            case measure => simp [intOf]; omega
          · have tc : decide (C ≤ 0) = true := by simp; omega
            have hCn : C ≠ 1 := hC1
            have hC0 : C ≤ 0 := by omega
            have hC2 : ¬ (0 < C) := by omega
            have HCY := Lib.hid (PsAt.cellsO (HPA5.out.up HB.out) hiA HX.out)
            have HMJ := Lib.hid (HMI.out.stepA HSA.out hiA (fun j hj hkj => le_trans_P (by rw [HX.out]; show cmpP x.p z.p ≠ 1; rw [HC.out]; exact hCn) (by have := HSB.out k j hkB hj hkj; rw [HZ.out] at this; exact this)))
            rw [HX.out] at HMJ
            clear hb56 hrng hC1 hCn HBB
            generalize x = y at *
            go_upto_region 10 with (fail)
            clear tc hC0 hC2
            obtain ⟨c0, c1, c2, c3, c4⟩ := HCY.out
            have hOk : OwnPs w2.heap.size w6 (.slice (some ⟨g, 0, none⟩) O.length cap) O := by rw [HOL.out]; exact HOO.out
            have hrA : (w6.alloc (.cells #[.slice y.a y.p.cells.length y.c, .slice y.a0 y.p.h0.length y.c0, .slice y.a1 y.p.h1.length y.c1, .int .i64 y.p.rights, .int .i64 y.p.side] 32)).ownsRow w2.heap.size 32 5 (.slice (some ⟨g, 0, none⟩) (i + k) cap) (i + k) (O.flatMap PosA.enc) := by
              have := hOk.up (below_alloc (Below.refl _ w6) (.cells #[.slice y.a y.p.cells.length y.c, .slice y.a0 y.p.h0.length y.c0, .slice y.a1 y.p.h1.length y.c1, .int .i64 y.p.rights, .int .i64 y.p.side] 32))
              unfold OwnPs at this
              rw [HOL.out] at this
              exact this
            have HRA := Lib.hid hrA
            have HOK := Lib.hid hOk
            clear hrA hOk
            go_wp2_with (at_builtin; go_loud (refine wpList_pushG rfl 43 32 (.agg #[.slice none 0 0, .slice none 0 0, .slice none 0 0, .int .i64 0, .int .i64 0]) 5 88 Tryz.underlying43 info_pos6 rfl (by decide) (by decide) (.tmp 57) (.tmp 62) rfl w2.heap.size (.slice (some ⟨g, 0, none⟩) (i + k) cap) (i + k) (O.flatMap PosA.enc) rfl HRA.out (by omega) (by simp; omega) w6.heap.size 1 [.slice y.a y.p.cells.length y.c, .slice y.a0 y.p.h0.length y.c0, .slice y.a1 y.p.h1.length y.c1, .int .i64 y.p.rights, .int .i64 y.p.side] rfl rfl (World.alloc_heap_new _ _) (by simp [Value.oneCell']) ?_; intro g7 cap7 w7 hown7 hg7))
            rw [← HOL.out] at hown7 hg7
            obtain ⟨q1, q2⟩ := addRow (y := y) hs56 HOK.out hg7 hown7
            rw [HOL.out] at q1
            have Q1 := Lib.hid q1
            have Q2 := Lib.hid (HB.out.trans q2)
            clear hown7 hg7 q1 q2 c0 c1 c2 c3 c4
            go_roundw
            case rel => exact ⟨i + 1, k, O ++ [y], g7, cap7, by omega, hk, by rw [List.length_append, HOL.out, show i + 1 + k = i + k + 1 by omega]; rfl, by rw [show i + 1 + k = i + k + 1 by omega], by go_num, rfl, HMJ, by rw [show i + 1 + k = i + k + 1 by omega]; exact Q1.out, Q2.out⟩
            case measure => simp [intOf]; omega
        · have ti1 : decide (i < A.length) = false := by simpa using hiA
          have ti2 : decide ((i : Int) < (A.length : Int)) = false := by simpa using hiA
          go_upto_region 9 with (fail)
          refine wp_region_quiet (C := fun W => Below w5.heap.size w5 W) (by kernel_rfl) (by kernel_rfl) ((Below.refl _ _).drew) ?_
          dsimp only
          iterate 10
            refine wpQuiet_val (v := ?_) (by rfl) ?_ ?_
            rotate_left
            · ((intro W hW; (try cases hW); go_simp); try with_reducible rfl)
            (try simp only [Act.put, List.setIfInBounds_toArray, List.set_cons_zero, List.set_cons_succ])
          iterate 10
            refine wpQuiet_off (by rfl) ?_
            (try simp only [Act.put, List.setIfInBounds_toArray, List.set_cons_zero, List.set_cons_succ])
          iterate 2
            refine wpQuiet_val (v := ?_) (by rfl) ?_ ?_
            rotate_left
            · ((intro W hW; (try cases hW); go_simp); try with_reducible rfl)
            (try simp only [Act.put, List.setIfInBounds_toArray, List.set_cons_zero, List.set_cons_succ])
          refine wpQuiet_nil (fun w6 hb56 => ?_)
          have hb6 := below_step hb hb56
          have HB := Lib.hid hb6
          have hs56 := hb6.size
          have HOO := Lib.hid (hO.up hb56)
          clear hO hb6 hb hb56
          have HCY := Lib.hid (PsAt.cellsO (hPBx.up HB.out) hkB hz)
          have HMJ := Lib.hid (HMI.out.stepB HSB.out hkB (fun j hj hij => absurd hj (by omega)))
          rw [hz] at HMJ
          clear hz hPBx
          generalize z = y at *
          go_upto_region 12 with (fail)
          obtain ⟨c0, c1, c2, c3, c4⟩ := HCY.out
          have hOk : OwnPs w2.heap.size w6 (.slice (some ⟨g, 0, none⟩) O.length cap) O := by rw [HOL.out]; exact HOO.out
          have hrA : (w6.alloc (.cells #[.slice y.a y.p.cells.length y.c, .slice y.a0 y.p.h0.length y.c0, .slice y.a1 y.p.h1.length y.c1, .int .i64 y.p.rights, .int .i64 y.p.side] 32)).ownsRow w2.heap.size 32 5 (.slice (some ⟨g, 0, none⟩) (i + k) cap) (i + k) (O.flatMap PosA.enc) := by
            have := hOk.up (below_alloc (Below.refl _ w6) (.cells #[.slice y.a y.p.cells.length y.c, .slice y.a0 y.p.h0.length y.c0, .slice y.a1 y.p.h1.length y.c1, .int .i64 y.p.rights, .int .i64 y.p.side] 32))
            unfold OwnPs at this
            rw [HOL.out] at this
            exact this
          have HRA := Lib.hid hrA
          have HOK := Lib.hid hOk
          clear hrA hOk
          go_wp2_with (at_builtin; go_loud (refine wpList_pushG rfl 43 32 (.agg #[.slice none 0 0, .slice none 0 0, .slice none 0 0, .int .i64 0, .int .i64 0]) 5 88 Tryz.underlying43 info_pos6 rfl (by decide) (by decide) (.tmp 66) (.tmp 71) rfl w2.heap.size (.slice (some ⟨g, 0, none⟩) (i + k) cap) (i + k) (O.flatMap PosA.enc) rfl HRA.out (by omega) (by simp; omega) w6.heap.size 1 [.slice y.a y.p.cells.length y.c, .slice y.a0 y.p.h0.length y.c0, .slice y.a1 y.p.h1.length y.c1, .int .i64 y.p.rights, .int .i64 y.p.side] rfl rfl (World.alloc_heap_new _ _) (by simp [Value.oneCell']) ?_; intro g7 cap7 w7 hown7 hg7))
          rw [← HOL.out] at hown7 hg7
          obtain ⟨q1, q2⟩ := addRow (y := y) hs56 HOK.out hg7 hown7
          rw [HOL.out] at q1
          have Q1 := Lib.hid q1
          have Q2 := Lib.hid (HB.out.trans q2)
          clear hown7 hg7 q1 q2 c0 c1 c2 c3 c4
          go_roundw
          case rel => exact ⟨i, k + 1, O ++ [y], g7, cap7, hi, by omega, by rw [List.length_append, HOL.out]; rfl, rfl, rfl, by go_num, HMJ, Q1.out, Q2.out⟩
          case measure => simp [intOf]; omega
      · have tk1 : decide (k < B.length) = false := by simpa using hkB
        have tk2 : decide ((k : Int) < (B.length : Int)) = false := by simpa using hkB
        have tk3 : decide (B.length ≤ k) = true := by simpa using hkB
        have tk4 : decide ((B.length : Int) ≤ (k : Int)) = true := by simpa using hkB
        by_cases hiA : i < A.length
        · have ti1 : decide (i < A.length) = true := by simpa using hiA
          have ti2 : decide ((i : Int) < (A.length : Int)) = true := by simpa using hiA
          have ti5 : (i : Int) < (A.length : Int) := by omega
          obtain ⟨ba, offA, haa, hPAx⟩ := (HPA2.out.resolve_left (by intro h; rw [h] at hiA; simp at hiA))
          subst haa
          obtain ⟨x, hx⟩ : ∃ x, A[i] = x := ⟨_, rfl⟩
          go_upto_region 9 with (fail)
          refine wp_region_quiet (C := fun W => Below w5.heap.size w5 W) (by kernel_rfl) (by kernel_rfl) ((Below.refl _ _).drew) ?_
          dsimp only
          iterate 5
            refine wpQuiet_val (v := ?_) (by rfl) ?_ ?_
            rotate_left
            · ((intro W hW; (try cases hW); go_simp); try with_reducible rfl)
            (try simp only [Act.put, List.setIfInBounds_toArray, List.set_cons_zero, List.set_cons_succ])
          iterate 16
            refine wpQuiet_off (by rfl) ?_
            (try simp only [Act.put, List.setIfInBounds_toArray, List.set_cons_zero, List.set_cons_succ])
          refine wpQuiet_val (v := ?_) (by rfl) ?_ ?_
          rotate_left
          · ((intro W hW; (try cases hW); go_simp); try with_reducible rfl)
          (try simp only [Act.put, List.setIfInBounds_toArray, List.set_cons_zero, List.set_cons_succ])
          refine wpQuiet_nil (fun w6 hb56 => ?_)
          have hb6 := below_step hb hb56
          have HB := Lib.hid hb6
          have hs56 := hb6.size
          have HOO := Lib.hid (hO.up hb56)
          clear hO hb6 hb hb56
          have HCY := Lib.hid (PsAt.cellsO (hPAx.up HB.out) hiA hx)
          have HMJ := Lib.hid (HMI.out.stepA HSA.out hiA (fun j hj hij => absurd hj (by omega)))
          rw [hx] at HMJ
          clear hx hPAx
          generalize x = y at *
          go_upto_region 10 with (fail)
          obtain ⟨c0, c1, c2, c3, c4⟩ := HCY.out
          have hOk : OwnPs w2.heap.size w6 (.slice (some ⟨g, 0, none⟩) O.length cap) O := by rw [HOL.out]; exact HOO.out
          have hrA : (w6.alloc (.cells #[.slice y.a y.p.cells.length y.c, .slice y.a0 y.p.h0.length y.c0, .slice y.a1 y.p.h1.length y.c1, .int .i64 y.p.rights, .int .i64 y.p.side] 32)).ownsRow w2.heap.size 32 5 (.slice (some ⟨g, 0, none⟩) (i + k) cap) (i + k) (O.flatMap PosA.enc) := by
            have := hOk.up (below_alloc (Below.refl _ w6) (.cells #[.slice y.a y.p.cells.length y.c, .slice y.a0 y.p.h0.length y.c0, .slice y.a1 y.p.h1.length y.c1, .int .i64 y.p.rights, .int .i64 y.p.side] 32))
            unfold OwnPs at this
            rw [HOL.out] at this
            exact this
          have HRA := Lib.hid hrA
          have HOK := Lib.hid hOk
          clear hrA hOk
          go_wp2_with (at_builtin; go_loud (refine wpList_pushG rfl 43 32 (.agg #[.slice none 0 0, .slice none 0 0, .slice none 0 0, .int .i64 0, .int .i64 0]) 5 88 Tryz.underlying43 info_pos6 rfl (by decide) (by decide) (.tmp 57) (.tmp 62) rfl w2.heap.size (.slice (some ⟨g, 0, none⟩) (i + k) cap) (i + k) (O.flatMap PosA.enc) rfl HRA.out (by omega) (by simp; omega) w6.heap.size 1 [.slice y.a y.p.cells.length y.c, .slice y.a0 y.p.h0.length y.c0, .slice y.a1 y.p.h1.length y.c1, .int .i64 y.p.rights, .int .i64 y.p.side] rfl rfl (World.alloc_heap_new _ _) (by simp [Value.oneCell']) ?_; intro g7 cap7 w7 hown7 hg7))
          rw [← HOL.out] at hown7 hg7
          obtain ⟨q1, q2⟩ := addRow (y := y) hs56 HOK.out hg7 hown7
          rw [HOL.out] at q1
          have Q1 := Lib.hid q1
          have Q2 := Lib.hid (HB.out.trans q2)
          clear hown7 hg7 q1 q2 c0 c1 c2 c3 c4
          go_roundw
          case rel => exact ⟨i + 1, k, O ++ [y], g7, cap7, by omega, hk, by rw [List.length_append, HOL.out, show i + 1 + k = i + k + 1 by omega]; rfl, by rw [show i + 1 + k = i + k + 1 by omega], by go_num, rfl, HMJ, by rw [show i + 1 + k = i + k + 1 by omega]; exact Q1.out, Q2.out⟩
          case measure => simp [intOf]; omega
        · have ti1 : decide (i < A.length) = false := by simpa using hiA
          have ti2 : decide ((i : Int) < (A.length : Int)) = false := by simpa using hiA
          have hiE : i = A.length := by omega
          have hkE : k = B.length := by omega
          have HR : Hid (HalfR w L (.returned (.slice (some ⟨g, 0, none⟩) (i + k) cap)) w5) := Lib.hid (by
            rw [← HOL.out]
            have hOo : OwnPs w2.heap.size w5 (.slice (some ⟨g, 0, none⟩) O.length cap) O := by rw [HOL.out]; exact hO
            refine ⟨O, some ⟨g, 0, none⟩, cap, rfl, ps_cap hO, .inr ⟨g, 0, rfl, hOo.at0⟩, fun x => ?_, ?_, HMI.out.srt, HB2.out.trans (hb.mono hs02)⟩
            · rw [HMI.out.mem, hiE, hkE, List.take_of_length_le (Nat.le_refl _), List.take_of_length_le (Nat.le_refl _), HMM.out]
            · rw [HOL.out, hiE, hkE, HLAB.out])
          clear hO hb hiE hkE
          go_wp2
          go_ret
          exact HR.out
theorem half_any : ∀ (n : Nat) (L : List PosA) (a : Option Addr) (cap N : Nat) (w : World), L.length = n → L.length ≤ 100 → L.length ≤ cap → N ≤ w.heap.size → (∀ x ∈ L, AOk N w x) → PsIn w a L → Calls Tryz.prog 39 #[.slice a L.length cap] w (HalfR w L) := by
  intro n
  induction n using Nat.strongRecOn with
  | _ n ih => exact fun L a cap N w h1 h2 h3 h4 h5 h6 => half_by n (fun L a cap N w hl h2 h3 h4 h5 h6 => ih L.length hl L a cap N w rfl h2 h3 h4 h5 h6) L a cap N w h1 h2 h3 h4 h5 h6
end Go.Proofs.YtphhkfelpckilaaGreatDoor

namespace Go.Proofs.YtphhkfelpckilaaGreatDoor
open Go Go.RowKit Go.Lib Go.Sort
attribute [local irreducible] Go.wpQuiet

def dOf (H : List PosA) (j : Nat) : PosS := (H[j]?.map (·.p)).getD ⟨[], [], [], 0, 0⟩
theorem dOf_at {H : List PosA} {j : Nat} (h : j < H.length) : dOf H j = (H[j]).p := by unfold dOf; simp [h]
set_option maxRecDepth 100000 in
set_option maxHeartbeats 1500000 in
theorem rsort_any (L : List PosA) (a : Option Addr) (cap0 N : Nat) (w : World) (hl : L.length ≤ 100) (hc : L.length ≤ cap0) (hN : N ≤ w.heap.size) (hL : ∀ x ∈ L, AOk N w x) (hP : PsIn w a L) :
    Calls Tryz.prog 15 #[.slice a L.length cap0] w fun e w' => ∃ (R : List PosA) (g c : Nat), e = .returned (.slice (some ⟨g, 0, none⟩) R.length c) ∧ R.map (·.p) = sortS (L.map (·.p)) ∧ OwnPs w.heap.size w' (.slice (some ⟨g, 0, none⟩) R.length c) R ∧ (∀ x ∈ R, x ∈ L) ∧ Below w.heap.size w w' := by
  have HH := Lib.hid (half_any L.length L a cap0 N w rfl hl hc hN hL hP)
  have HL := Lib.hid hL
  clear hL hP
  go_enter Tryz.func15, Tryz.ntmps15
  go_wp2_with fail
  refine HH.out.mono ?_
  rintro e w2 ⟨H, ah, ch, rfl, hcH, hPH, hmH, hlH, hsH, hb2⟩
  have hs02 := hb2.size
  have HOK : Hid (∀ x ∈ H, AOk N w2 x) := Lib.hid (fun x hx => (HL.out x ((hmH x).1 hx)).up hN hb2)
  have hl2 : H.length ≤ 100 := by omega
  have HPH := Lib.hid hPH
  have HMH := Lib.hid hmH
  have HSH := Lib.hid hsH
  have HB2 := Lib.hid hb2
  clear hcH hPH hmH hlH hsH hb2 HH HL
  have hoe := ps_empty w2
  go_upto_block 0 with (fail)
  go_wp2_with fail
  go_loopw [4, 5] (fun v iv wr => ∃ (q k : Nat) (O : List PosA) (g cap : Nat), q ≤ H.length ∧ k ≤ q ∧ O.length = k ∧ v = .slice (some ⟨g, 0, none⟩) k cap ∧ iv = .int .i64 q ∧ Hid (O.map (·.p) = ddupTo (dOf H) q) ∧ Hid (∀ x ∈ O, x ∈ H) ∧ OwnPs w2.heap.size wr (.slice (some ⟨g, 0, none⟩) k cap) O ∧ Below w2.heap.size w2 wr) (fun _ iv _ => H.length - (intOf iv).toNat)
  case atStart => exact ⟨0, 0, [], w2.heap.size, 0, Nat.zero_le _, Nat.le_refl _, rfl, rfl, rfl, Lib.hid rfl, Lib.hid (fun x hx => by cases hx), hoe, below_alloc (Below.refl _ _) _⟩
  case round =>
    clear hoe
    obtain ⟨q, k, O, g, cap, hq, hkq, hOl, rfl, rfl, HD, HIN, hO, hb⟩ := hrel
    have HOL := Lib.hid hOl
    clear hOl
    generalize wr = w5 at *
    have hs5 := hb.size
    by_cases hlt : q < H.length
    · have tq1 : decide (q < H.length) = true := by simpa using hlt
      have tq2 : decide ((q : Int) < (H.length : Int)) = true := by simpa using hlt
      have t3 : (0 : Int) ≤ (q : Int) := by omega
      have t4 : (q : Int) < (H.length : Int) := by omega
      obtain ⟨bh, offH, hah, hPHx⟩ := (HPH.out.resolve_left (by intro h; rw [h] at hlt; simp at hlt))
      subst hah
      obtain ⟨x, hx⟩ : ∃ x, H[q] = x := ⟨_, rfl⟩
      have hxH : x ∈ H := by rw [← hx]; exact List.getElem_mem _
      have hdx : dOf H q = x.p := by rw [dOf_at hlt, hx]
      have HDX := Lib.hid hdx
      have HIN2 : Hid (∀ z ∈ O ++ [x], z ∈ H) := Lib.hid (fun z hz => by
        rcases List.mem_append.1 hz with hz | hz
        · exact HIN.out z hz
        · obtain rfl : z = x := by simpa using hz
          exact hxH)
      clear hdx
      by_cases h0 : q = 0
      · skip
        subst h0
        have HKQ := Lib.hid hkq
        have hk5 : k ≤ 5 := by omega
        have HD2 := Lib.hid (show (O ++ [x]).map (·.p) = ddupTo (dOf H) 1 by
          have : O = [] := List.length_eq_zero_iff.1 (by rw [HOL.out]; omega)
          rw [this]; simp [ddupTo, HDX.out])
        go_upto_region 6 with (fail)
        refine wp_region_quiet (C := fun W => Below w5.heap.size w5 W) (by kernel_rfl) (by kernel_rfl) ((Below.refl _ _).drew) ?_
        dsimp only
        iterate 3
          refine wpQuiet_val (v := ?_) (by rfl) ?_ ?_
          rotate_left
          · ((intro W hW; (try cases hW); go_simp); try with_reducible rfl)
          (try simp only [Act.put, List.setIfInBounds_toArray, List.set_cons_zero, List.set_cons_succ])
        iterate 11
          refine wpQuiet_off (by rfl) ?_
          (try simp only [Act.put, List.setIfInBounds_toArray, List.set_cons_zero, List.set_cons_succ])
        refine wpQuiet_val (v := ?_) (by rfl) ?_ ?_
        rotate_left
        · ((intro W hW; (try cases hW); go_simp); try with_reducible rfl)
        (try simp only [Act.put, List.setIfInBounds_toArray, List.set_cons_zero, List.set_cons_succ])
        refine wpQuiet_nil (fun w6 hb56 => ?_)
        have hb6 := below_step hb hb56
        have HB := Lib.hid hb6
        have hs56 := hb6.size
        have HOO := Lib.hid (hO.up hb56)
        have hcy := PsAt.cellsO (hPHx.up hb6) hlt hx
        simp only [Nat.zero_mul, Nat.add_zero] at hcy
        have HCY := Lib.hid hcy
        clear hcy
        clear hO hb6 hb hb56 hx hPHx hxH hkq
        generalize x = y at *
        go_upto_region 7 with (fail)
        obtain ⟨c0, c1, c2, c3, c4⟩ := HCY.out
        have hOk : OwnPs w2.heap.size w6 (.slice (some ⟨g, 0, none⟩) O.length cap) O := by rw [HOL.out]; exact HOO.out
        have hrA : (w6.alloc (.cells #[.slice y.a y.p.cells.length y.c, .slice y.a0 y.p.h0.length y.c0, .slice y.a1 y.p.h1.length y.c1, .int .i64 y.p.rights, .int .i64 y.p.side] 32)).ownsRow w2.heap.size 32 5 (.slice (some ⟨g, 0, none⟩) k cap) k (O.flatMap PosA.enc) := by
          have := hOk.up (below_alloc (Below.refl _ w6) (.cells #[.slice y.a y.p.cells.length y.c, .slice y.a0 y.p.h0.length y.c0, .slice y.a1 y.p.h1.length y.c1, .int .i64 y.p.rights, .int .i64 y.p.side] 32))
          unfold OwnPs at this
          rw [HOL.out] at this
          exact this
        have HRA := Lib.hid hrA
        have HOK := Lib.hid hOk
        clear hrA hOk
        go_wp2_with (at_builtin; go_loud (refine wpList_pushG rfl 43 32 (.agg #[.slice none 0 0, .slice none 0 0, .slice none 0 0, .int .i64 0, .int .i64 0]) 5 88 Tryz.underlying43 info_pos6 rfl (by decide) (by decide) (.tmp 30) (.tmp 35) rfl w2.heap.size (.slice (some ⟨g, 0, none⟩) k cap) k (O.flatMap PosA.enc) rfl HRA.out (by omega) (by simp; omega) w6.heap.size 1 [.slice y.a y.p.cells.length y.c, .slice y.a0 y.p.h0.length y.c0, .slice y.a1 y.p.h1.length y.c1, .int .i64 y.p.rights, .int .i64 y.p.side] rfl rfl (World.alloc_heap_new _ _) (by simp [Value.oneCell']) ?_; intro g7 cap7 w7 hown7 hg7))
        rw [← HOL.out] at hown7 hg7
        obtain ⟨q1, q2⟩ := addRow (y := y) hs56 HOK.out hg7 hown7
        rw [HOL.out] at q1
        have Q1 := Lib.hid q1
        have Q2 := Lib.hid (HB.out.trans q2)
        clear hown7 hg7 q1 q2 c0 c1 c2 c3 c4
        go_roundw
        case rel => exact ⟨1, k + 1, O ++ [y], g7, cap7, by omega, by have := HKQ.out; omega, by rw [List.length_append, HOL.out]; rfl, rfl, by go_num, HD2, HIN2, Q1.out, Q2.out⟩
        case measure => simp [intOf]; omega
      · obtain ⟨j, hj⟩ : ∃ j, j + 1 = q := ⟨q - 1, by omega⟩
        have hjl : j < H.length := by omega
        obtain ⟨y, hy⟩ : ∃ y, H[j] = y := ⟨_, rfl⟩
        have hdd : ddupTo (dOf H) (q + 1) = if x.p = y.p then ddupTo (dOf H) q else ddupTo (dOf H) q ++ [x.p] := by
          rw [← HDX.out, ← hy, ← dOf_at hjl, ← hj]; rfl
        have HDD := Lib.hid hdd
        have hT := TwoB.of2 (hPHx.up hb) (hPHx.up hb) hlt hjl hx hy
        have hN5 : N ≤ w5.heap.size := by omega
        have hxo := (HOK.out x hxH).up (Nat.le_trans hN hs02) hb
        have hyo := (HOK.out y (by rw [← hy]; exact List.getElem_mem _)).up (Nat.le_trans hN hs02) hb
        have HCM := Lib.hid (fun W (h : Below w5.heap.size w5 W) => rsame_any x y N W (hxo.up hN5 h) (hyo.up hN5 h) (Nat.le_trans hN5 h.size))
        unfold PosA.val PosV at HCM
        have d0 : ((q : Int) == 0) = false := by rw [beq_eq_false_iff_ne]; omega
        have d1 : decide (q = 0) = false := by simpa using h0
        have w1 : IntKind.i64.wrap ((q : Int) - 1) = (j : Int) := by rw [IntWalk.i64_in _ (by omega)]; omega
        have t5 : (0 : Int) ≤ (j : Int) := by omega
        have t6 : (j : Int) < (H.length : Int) := by omega
        have HPX := Lib.hid hPHx
        have HX := Lib.hid hx
        have HO := Lib.hid hO
        have HBB := Lib.hid hb
        clear hj hy hdd hxo hyo hPHx hx hO hb hxH
        go_upto_region 6 with (fail)
        refine wp_region_quiet (C := TwoB w5 bh (offH + q * 5) bh (offH + j * 5) x y) (by kernel_rfl) (by kernel_rfl) (hT.up (Below.refl _ _).drew) ?_
        dsimp only
        iterate 12
          refine wpQuiet_val (v := ?_) (by rfl) ?_ ?_
          rotate_left
          · ((intro W hW; (try cases hW); go_simp); try with_reducible rfl)
          (try simp only [Act.put, List.setIfInBounds_toArray, List.set_cons_zero, List.set_cons_succ])
        refine wpQuiet_val (v := .bool (decide (x.p = y.p))) (by rfl) (fun W hW => ?_) ?_
        · go_simp
          exact (HCM.out W hW.b).mono fun e w' ⟨he, hb⟩ => ⟨he, hW.up hb⟩
        (try simp only [Act.put, List.setIfInBounds_toArray, List.set_cons_zero, List.set_cons_succ])
        iterate 2
          refine wpQuiet_val (v := ?_) (by rfl) ?_ ?_
          rotate_left
          · ((intro W hW; (try cases hW); go_simp); try with_reducible rfl)
          (try simp only [Act.put, List.setIfInBounds_toArray, List.set_cons_zero, List.set_cons_succ])
        refine wpQuiet_nil (fun w6 hW => ?_)
        have hb56 := hW.b
        have hb6 := below_step HBB.out hb56
        have HB := Lib.hid hb6
        have hs56 := hb6.size
        have HOO := Lib.hid (HO.out.up hb56)
        clear hT hW HCM HO hb6 hb56 HBB
        by_cases hxy : x.p = y.p
        · skip
          have HD2 := Lib.hid (show O.map (·.p) = ddupTo (dOf H) (q + 1) by rw [HDD.out, if_pos hxy]; exact HD.out)
          have t7 : decide (x.p = y.p) = true := by simpa using hxy
          rw [t7]
          clear hxy t7
          go_wp2_with fail
          go_roundw
          case rel => exact ⟨q + 1, k, O, g, cap, by omega, by omega, HOL.out, rfl, by go_num, HD2, HIN, HOO.out, HB.out⟩
          case measure => simp [intOf]; omega
        · skip
          have HD2 := Lib.hid (show (O ++ [x]).map (·.p) = ddupTo (dOf H) (q + 1) by rw [HDD.out, if_neg hxy, List.map_append, HD.out]; rfl)
          have t7 : decide (x.p = y.p) = false := by simpa using hxy
          rw [t7]
          have HCY := Lib.hid (PsAt.cellsO (HPX.out.up HB.out) hlt HX.out)
          clear hxy t7 HDD HDX
          generalize y = y2 at *
          generalize x = y at *
          go_upto_region 7 with (fail)
          obtain ⟨c0, c1, c2, c3, c4⟩ := HCY.out
          have hOk : OwnPs w2.heap.size w6 (.slice (some ⟨g, 0, none⟩) O.length cap) O := by rw [HOL.out]; exact HOO.out
          have hrA : (w6.alloc (.cells #[.slice y.a y.p.cells.length y.c, .slice y.a0 y.p.h0.length y.c0, .slice y.a1 y.p.h1.length y.c1, .int .i64 y.p.rights, .int .i64 y.p.side] 32)).ownsRow w2.heap.size 32 5 (.slice (some ⟨g, 0, none⟩) k cap) k (O.flatMap PosA.enc) := by
            have := hOk.up (below_alloc (Below.refl _ w6) (.cells #[.slice y.a y.p.cells.length y.c, .slice y.a0 y.p.h0.length y.c0, .slice y.a1 y.p.h1.length y.c1, .int .i64 y.p.rights, .int .i64 y.p.side] 32))
            unfold OwnPs at this
            rw [HOL.out] at this
            exact this
          have HRA := Lib.hid hrA
          have HOK := Lib.hid hOk
          clear hrA hOk
          go_wp2_with (at_builtin; go_loud (refine wpList_pushG rfl 43 32 (.agg #[.slice none 0 0, .slice none 0 0, .slice none 0 0, .int .i64 0, .int .i64 0]) 5 88 Tryz.underlying43 info_pos6 rfl (by decide) (by decide) (.tmp 30) (.tmp 35) rfl w2.heap.size (.slice (some ⟨g, 0, none⟩) k cap) k (O.flatMap PosA.enc) rfl HRA.out (by omega) (by simp; omega) w6.heap.size 1 [.slice y.a y.p.cells.length y.c, .slice y.a0 y.p.h0.length y.c0, .slice y.a1 y.p.h1.length y.c1, .int .i64 y.p.rights, .int .i64 y.p.side] rfl rfl (World.alloc_heap_new _ _) (by simp [Value.oneCell']) ?_; intro g7 cap7 w7 hown7 hg7))
          rw [← HOL.out] at hown7 hg7
          obtain ⟨q1, q2⟩ := addRow (y := y) hs56 HOK.out hg7 hown7
          rw [HOL.out] at q1
          have Q1 := Lib.hid q1
          have Q2 := Lib.hid (HB.out.trans q2)
          clear hown7 hg7 q1 q2 c0 c1 c2 c3 c4
          go_roundw
          case rel => exact ⟨q + 1, k + 1, O ++ [y], g7, cap7, by omega, by omega, by rw [List.length_append, HOL.out]; rfl, rfl, by go_num, HD2, HIN2, Q1.out, Q2.out⟩
          case measure => simp [intOf]; omega
    · obtain rfl : q = H.length := by omega
      have tq1 : decide (H.length < H.length) = false := by simp
      have tq2 : decide ((H.length : Int) < (H.length : Int)) = false := by simp
      have HRS := Lib.hid (show O.map (·.p) = sortS (L.map (·.p)) by
        rw [HD.out]
        refine sortS_eq (ddupTo_srt (dOf H) H.length (fun i j hij hj => ?_) _ (Nat.le_refl _)) (fun p => ?_)
        · rw [dOf_at hj, dOf_at (show i < H.length by omega), cmpP_ok.anti (H[i]).p (H[j]).p]
          have := HSH.out i j (by omega) hj (by omega)
          have r := cmpP_ok.rng (H[i]).p (H[j]).p
          omega
        · rw [ddupTo_mem, List.mem_map]
          constructor
          · rintro ⟨j, hj, rfl⟩
            exact ⟨H[j], (HMH.out _).1 (List.getElem_mem _), (dOf_at hj).symm⟩
          · rintro ⟨x, hx, rfl⟩
            obtain ⟨j, hj, rfl⟩ := List.mem_iff_getElem.1 ((HMH.out x).2 hx)
            exact ⟨j, hj, (dOf_at hj).symm⟩)
      have HBE := Lib.hid (HB2.out.trans (hb.mono hs02))
      have HO := Lib.hid hO
      clear hO hb
      go_wp2
      go_ret
      exact ⟨O, g, cap, by rw [HOL.out]; rfl, HRS.out, by rw [HOL.out]; exact HO.out.mono hs02, fun x hx => (HMH.out x).1 (HIN.out x hx), HBE.out⟩
end Go.Proofs.YtphhkfelpckilaaGreatDoor

namespace Go.Proofs.YtphhkfelpckilaaGreatDoor
open Go Go.RowKit Go.Lib Go.Sort
attribute [local irreducible] Go.wpQuiet

set_option maxRecDepth 100000 in
set_option maxHeartbeats 2000000 in
theorem bnil_any (y : PosA) (w : World) :
    Calls Tryz.prog 57 #[.slice none 0 0, y.val, .func (.func 18) #[] #[]] w fun e w' => e = .returned (.tuple #[.int .i64 0, .bool false]) ∧ Below w.heap.size w w' := by
  unfold PosA.val PosV
  go_enter Tryz.func57, Tryz.ntmps57
  go_upto_region 1 with (fail)
  have hbA : Below w.heap.size w (w.alloc (.cells #[.slice y.a y.p.cells.length y.c, .slice y.a0 y.p.h0.length y.c0, .slice y.a1 y.p.h1.length y.c1, .int .i64 y.p.rights, .int .i64 y.p.side] 32)) := below_alloc (Below.refl _ _) _
  generalize w.alloc (.cells #[.slice y.a y.p.cells.length y.c, .slice y.a0 y.p.h0.length y.c0, .slice y.a1 y.p.h1.length y.c1, .int .i64 y.p.rights, .int .i64 y.p.side] 32) = w0 at *
  go_wp2
  go_loopw [9, 10] (fun i j wr => i = .int .i64 0 ∧ j = .int .i64 0 ∧ Hid (Below w0.heap.size w0 wr)) (fun i j _ => (intOf j).toNat - (intOf i).toNat)
  case atStart => exact ⟨rfl, rfl, Lib.hid (Below.refl _ _)⟩
  case round =>
    obtain ⟨rfl, rfl, hb⟩ := hrel
    have t1 : decide ((0 : Int) < 0) = false := by simp
    go_upto_region 8 with (fail)
    refine wp_quiet_below (by kernel_rfl) (by kernel_rfl) ?_
    iterate 5
      refine wpQuiet_val (v := ?_) (by rfl) ?_ ?_
      rotate_left
      · ((intro W hW; (try cases hW); go_simp); try with_reducible rfl)
      (try simp only [Act.put, List.setIfInBounds_toArray, List.set_cons_zero, List.set_cons_succ])
    iterate 8
      refine wpQuiet_off (by rfl) ?_
      (try simp only [Act.put, List.setIfInBounds_toArray, List.set_cons_zero, List.set_cons_succ])
    iterate 3
      refine wpQuiet_val (v := ?_) (by rfl) ?_ ?_
      rotate_left
      · ((intro W hW; (try cases hW); go_simp); try with_reducible rfl)
      (try simp only [Act.put, List.setIfInBounds_toArray, List.set_cons_zero, List.set_cons_succ])
    refine wpQuiet_nil (fun W hW => ?_)
    have HBN := Lib.hid (below_step (below_step hbA hb.out) hW.b)
    clear hW hb hbA
    go_wp2
    go_ret2
    exact ⟨rfl, HBN.out⟩
set_option maxRecDepth 100000 in
set_option maxHeartbeats 2000000 in
theorem findnil_any (y : PosA) (w : World) :
    Calls Tryz.prog 24 #[.slice none 0 0, y.val] w fun e w' => e = .returned (.int .i64 (-1)) ∧ Below w.heap.size w w' := by
  have hbA : Below w.heap.size w (w.alloc (.cells #[.slice y.a y.p.cells.length y.c, .slice y.a0 y.p.h0.length y.c0, .slice y.a1 y.p.h1.length y.c1, .int .i64 y.p.rights, .int .i64 y.p.side] 32)) := below_alloc (Below.refl _ _) _
  have HB := Lib.hid (bnil_any y (w.alloc (.cells #[.slice y.a y.p.cells.length y.c, .slice y.a0 y.p.h0.length y.c0, .slice y.a1 y.p.h1.length y.c1, .int .i64 y.p.rights, .int .i64 y.p.side] 32)))
  have HBA := Lib.hid hbA
  unfold PosA.val PosV at HB ⊢
  clear hbA
  go_enter Tryz.func24, Tryz.ntmps24
  go_wp2_with fail
  refine HB.out.mono ?_
  rintro e w' ⟨rfl, hb⟩
  have hbE := below_step HBA.out hb
  clear hb HBA HB
  go_wp2
  go_ret
  exact ⟨rfl, hbE⟩
end Go.Proofs.YtphhkfelpckilaaGreatDoor
