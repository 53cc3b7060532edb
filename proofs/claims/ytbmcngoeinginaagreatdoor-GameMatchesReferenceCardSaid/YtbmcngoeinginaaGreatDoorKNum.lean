/-
 Of the reference: Number, outcome.
-/
import Derived.Test.YtbmcngoeinginaaGreatDoorKRdM
import Derived.Test.YtbmcngoeinginaaGreatDoorKRef
namespace Go.Proofs.YtbmcngoeinginaaGreatDoor
open Go Go.RowKit Go.Lib
theorem numR_no {s : List UInt8} (h1 : ¬ s = [45, 49]) (h : s.all digD = false ∨ ¬ s.length ≤ 4) : numR s = -2 := by
 unfold numR
 rw [if_neg h1, if_neg]
 rw [Bool.and_eq_true, decide_eq_true_eq]
 rintro ⟨h2, h3⟩
 rcases h with h | h
 · rw [h] at h2; cases h2
 · exact h h3
theorem valD_snoc (s : List UInt8) (c : UInt8) : valD (s ++ [c]) = 10 * valD s + (c.toNat - 48) := by simp [valD]
theorem valD_take (s : List UInt8) (q : Nat) (h : q < s.length) : valD (s.take (q + 1)) = 10 * valD (s.take q) + ((s[q]?.getD 0).toNat - 48) := by
 rw [List.take_add_one, List.getElem?_eq_getElem h, Option.toList_some, valD_snoc, Option.getD_some]
theorem valD_le : ∀ (q : Nat) (s : List UInt8), (∀ j, j < q → digD (s[j]?.getD 0) = true) → q ≤ s.length → valD (s.take q) < 10 ^ q
 | 0, s, _, _ => by simp [valD]
 | q + 1, s, h, hl => by
   have ih := valD_le q s (fun j hj => h j (by omega)) (by omega);have hd := h q (by omega);unfold digD at hd;rw [Bool.and_eq_true, decide_eq_true_eq, decide_eq_true_eq] at hd;rw [valD_take s q (by omega), Nat.pow_succ]
   omega
theorem sub48 {a : Int} (h0 : 48 ≤ a) (h1 : a ≤ 57) : IntKind.u8.wrap (a - 48) = a - 48 := by
 have : ((List.range 10).all fun j => decide (IntKind.u8.wrap ((j : Int)) = (j : Int))) = true := by decide +kernel
 have h2 := List.all_eq_true.1 this (a - 48).toNat (List.mem_range.2 (by omega))
 rw [decide_eq_true_eq] at h2
 have e : (((a - 48).toNat : Nat) : Int) = a - 48 := by omega
 rwa [e] at h2
set_option maxRecDepth 100000 in
set_option maxHeartbeats 2000000 in
theorem rnumber_any (s : List UInt8) (w : World) (hs : s.length ≤ 1000000) : Calls Tryz.prog 75 #[.string ⟨s.toArray⟩] w fun e w' => e = .returned (.int .i64 (numR s)) ∧ Below w.heap.size w w' := by
 by_cases hm : s = [45, 49]
 · have HO : Hid (numR s = -1) := Lib.hid (by unfold numR; rw [if_pos hm])
   subst hm;go_enter Tryz.func75, Tryz.ntmps75;go_wp2
   go_ret
   exact ⟨by rw [HO.out]; first | done | rfl, Below.refl _ _⟩
 have t1 : (s == [45, 49]) = false := by simpa using hm
 have HM := Lib.hid hm
 clear hm
 go_enter Tryz.func75, Tryz.ntmps75
 go_wp2
 clear t1
 go_loopw [3, 4] (fun v i wr => ∃ q : Nat, q ≤ s.length ∧ q ≤ 4 ∧ i = .int .i64 (q : Int) ∧ v = .int .i64 ((valD (s.take q) : Nat) : Int) ∧ Hid (∀ j, j < q → digD (s[j]?.getD 0) = true) ∧ wr = w) (fun _ i _ => s.length - (intOf i).toNat)
 case atStart => exact ⟨0, Nat.zero_le _, by omega, rfl, rfl, Lib.hid (fun j hj => absurd hj (Nat.not_lt_zero _)), rfl⟩
 case round =>
   obtain ⟨q, hq, hq4, rfl, rfl, hall, rfl⟩ := hrel
   by_cases hlt : q < s.length
   · have t3 : decide ((q : Int) < (s.length : Int)) = true := by rw [decide_eq_true_eq]; omega
     have hx := byte3 s q hlt
     have HXB : Hid (s[q]?.getD 0 = s[q]'hlt) := Lib.hid (by rw [List.getElem?_eq_getElem hlt]; rfl)
     have HVT := Lib.hid (valD_take s q hlt);have hvl := valD_le q s hall.out hq
     by_cases b1 : (s[q]?.getD 0).toNat < 48
     · have hT : ∀ h2 : q < (⟨s.toArray⟩ : ByteArray).size, decide (((⟨s.toArray⟩ : ByteArray)[q].toNat : Int) < 48) = true := fun h2 => by rw [hx h2, decide_eq_true_eq]; omega
       have HO := Lib.hid (show numR s = -2 from numR_no HM.out (.inl (all_none hlt (by rw [← HXB.out]; unfold digD; rw [Bool.and_eq_false_iff]; left; rw [decide_eq_false_iff_not]; omega))))
       clear hx b1 hvl;go_wp2
       go_ret
       exact ⟨by rw [HO.out]; first | done | rfl, Below.refl _ _⟩
     have hT : ∀ h2 : q < (⟨s.toArray⟩ : ByteArray).size, decide (((⟨s.toArray⟩ : ByteArray)[q].toNat : Int) < 48) = false := fun h2 => by rw [hx h2, decide_eq_false_iff_not]; omega
     by_cases b2 : 57 < (s[q]?.getD 0).toNat
     · have hU : ∀ h2 : q < (⟨s.toArray⟩ : ByteArray).size, decide ((57 : Int) < ((⟨s.toArray⟩ : ByteArray)[q].toNat : Int)) = true := fun h2 => by rw [hx h2, decide_eq_true_eq]; omega
       have HO := Lib.hid (show numR s = -2 from numR_no HM.out (.inl (all_none hlt (by rw [← HXB.out]; unfold digD; rw [Bool.and_eq_false_iff]; right; rw [decide_eq_false_iff_not]; omega))))
       clear hx b1 b2 hvl;go_wp2
       go_ret
       exact ⟨by rw [HO.out]; first | done | rfl, Below.refl _ _⟩
     have hU : ∀ h2 : q < (⟨s.toArray⟩ : ByteArray).size, decide ((57 : Int) < ((⟨s.toArray⟩ : ByteArray)[q].toNat : Int)) = false := fun h2 => by rw [hx h2, decide_eq_false_iff_not]; omega
     by_cases b3 : 3 < q
     · have t5 : decide ((3 : Int) < (q : Int)) = true := by rw [decide_eq_true_eq]; omega
       have HO := Lib.hid (show numR s = -2 from numR_no HM.out (.inr (by omega)));clear hx b1 b2 hvl;go_wp2
       go_ret
       exact ⟨by rw [HO.out]; first | done | rfl, Below.refl _ _⟩
     have t5 : decide ((3 : Int) < (q : Int)) = false := by rw [decide_eq_false_iff_not]; omega
     have HL := Lib.hid (show digD (s[q]?.getD 0) = true by unfold digD; rw [Bool.and_eq_true, decide_eq_true_eq, decide_eq_true_eq]; omega)
     have hp4 : (10 : Nat) ^ q ≤ 10 ^ 3 := Nat.pow_le_pow_right (by omega) (by omega)
     have hv3 : valD (s.take q) ≤ 999 := by omega
     generalize hcv : s[q]?.getD 0 = cv at *;have HCV := Lib.hid hcv
     have hW : ∀ h2 : q < (⟨s.toArray⟩ : ByteArray).size, IntKind.u8.wrap (((⟨s.toArray⟩ : ByteArray)[q].toNat : Int) - 48) = (cv.toNat : Int) - 48 := fun h2 => by rw [hx h2]; exact sub48 (by omega) (by omega)
     have y1 : IntKind.i64.wrap (10 * ((valD (s.take q) : Nat) : Int)) = 10 * ((valD (s.take q) : Nat) : Int) := IntWalk.i64_in _ (by omega);have y2 : IntKind.i64.wrap ((cv.toNat : Int) - 48) = (cv.toNat : Int) - 48 := IntWalk.i64_in _ (by omega);have y3 : IntKind.i64.wrap (10 * ((valD (s.take q) : Nat) : Int) + ((cv.toNat : Int) - 48)) = 10 * ((valD (s.take q) : Nat) : Int) + ((cv.toNat : Int) - 48) := IntWalk.i64_in _ (by omega);have HCB : Hid (48 ≤ cv.toNat) := Lib.hid (by omega);clear hx b1 b2 hvl hcv hp4;go_wp2
     go_roundw
     case rel => exact ⟨q + 1, by omega, by omega, by go_num, by rw [HVT.out]; congr 1; have := HCB.out; omega, Lib.hid (fun j hj => by
       by_cases e : j = q
       · rw [e, HCV.out]; exact HL.out
       · exact hall.out j (by omega)), by first | rfl | trivial⟩
     case measure => simp [intOf]; omega
   · obtain rfl : q = s.length := by omega
     have hvl := valD_le s.length s hall.out hq;have hp4 : (10 : Nat) ^ s.length ≤ 10 ^ 4 := Nat.pow_le_pow_right (by omega) hq4
     have hn : numR s = if itoa ((valD s : Nat) : Int) = s then ((valD s : Nat) : Int) else -2 := by
       unfold numR;rw [if_neg HM.out, if_pos];rw [Bool.and_eq_true, decide_eq_true_eq];exact ⟨all_each hall.out, hq4⟩
     have HN := Lib.hid hn;rw [List.take_length] at hvl ⊢;have HD := Lib.hid (rdec_any ((valD s : Nat) : Int) (by omega) wr);have hl21 := itoa_length_le ((valD s : Nat) : Int) (by omega) (by omega);generalize itoa ((valD s : Nat) : Int) = t at *;clear hn hvl hp4
     go_wp2_with fail
     refine HD.out.mono ?_;rintro e w2 ⟨rfl, e0⟩;subst w2
     by_cases he : t = s
     · have HO : Hid (numR s = ((valD s : Nat) : Int)) := Lib.hid (by rw [HN.out, if_pos he])
       have u1 : (t != s) = false := by simpa using he
       have u2 : (t == s) = true := by simpa using he
       clear he;go_wp2
       go_ret
       exact ⟨by rw [HO.out]; first | done | rfl, Below.refl _ _⟩
     · have HO : Hid (numR s = -2) := Lib.hid (by rw [HN.out, if_neg he])
       have u1 : (t != s) = true := by simpa using he
       have u2 : (t == s) = false := by simpa using he
       clear he;go_wp2
       go_ret
       exact ⟨by rw [HO.out]; first | done | rfl, Below.refl _ _⟩
set_option maxRecDepth 100000 in
set_option maxHeartbeats 2000000 in
theorem routcome_any (s : List UInt8) (w : World) : Calls Tryz.prog 79 #[.string ⟨s.toArray⟩] w fun e w' => e = .returned (.int .i64 (resN s)) ∧ Below w.heap.size w w' := by
 go_enter Tryz.func79, Tryz.ntmps79
 go_wp2
 go_loopw [3] (fun i wr => ∃ q : Nat, 1 ≤ q ∧ q ≤ 4 ∧ i = .int .i64 (q : Int) ∧ Hid (∀ j, 1 ≤ j → j < q → ¬ resW j = s) ∧ Hid (Below w.heap.size w wr)) (fun i _ => 4 - (intOf i).toNat)
 case atStart => exact ⟨1, by omega, by omega, rfl, Lib.hid (fun j h1 h2 => by omega), Lib.hid (Below.refl _ _)⟩
 case round =>
   obtain ⟨q, hq1, hq, rfl, hall, HB⟩ := hrel
   by_cases hlt : q ≤ 3
   · have t3 : decide ((q : Int) ≤ 3) = true := by rw [decide_eq_true_eq]; omega
     have HR := Lib.hid (rres_any q hq1 hlt wr);have HZ : Hid (resW 0 = []) := Lib.hid rfl
     have HW0 : Hid (¬ resW q = []) := Lib.hid (by rcases (show q = 1 ∨ q = 2 ∨ q = 3 by omega) with rfl | rfl | rfl <;> decide)
     obtain ⟨t, ht⟩ : ∃ t, resW q = t := ⟨_, rfl⟩;have HT := Lib.hid ht;rw [ht] at HR;clear ht
     go_wp2_with fail
     refine HR.out.mono ?_;rintro e w2 ⟨rfl, hb2⟩;have HB2 := Lib.hid (below_step HB.out hb2);clear hb2
     by_cases he : s = t
     · have HO : Hid (resN s = (q : Int)) := Lib.hid (by
         have h0 : ¬ resW 0 = s := fun e => HW0.out (by rw [HT.out, ← he, ← e]; exact HZ.out)
         unfold resN;rw [if_neg h0]
         rcases (show q = 1 ∨ q = 2 ∨ q = 3 by omega) with e | e | e
         · subst e; rw [if_pos (by rw [HT.out, he])]; rfl
         · subst e; rw [if_neg (hall.out 1 (by omega) (by omega)), if_pos (by rw [HT.out, he])]; rfl
         · subst e; rw [if_neg (hall.out 1 (by omega) (by omega)), if_neg (hall.out 2 (by omega) (by omega)), if_pos (by rw [HT.out, he])]; rfl)
       have u1 : (s == t) = true := by simpa using he
       clear he;go_wp2
       go_ret
       exact ⟨by rw [HO.out]; first | done | rfl, HB2.out⟩
     · have u1 : (s == t) = false := by simpa using he
       have HNE : Hid (¬ resW q = s) := Lib.hid (fun e => he (by rw [← e, HT.out]));clear he;go_wp2
       go_roundw
       case rel => exact ⟨q + 1, by omega, by omega, by go_num, Lib.hid (fun j h1 h2 => by
         by_cases e : j = q
         · rw [e]; exact HNE.out
         · exact hall.out j h1 (by omega)), HB2⟩
       case measure => simp [intOf]; omega
   · obtain rfl : q = 4 := by omega
     have HO : Hid (resN s = 0) := Lib.hid (by
       unfold resN;rw [if_neg (hall.out 1 (by omega) (by omega)), if_neg (hall.out 2 (by omega) (by omega)), if_neg (hall.out 3 (by omega) (by omega))]
       split <;> rfl)
     go_wp2
     go_ret
     exact ⟨by rw [HO.out]; first | done | rfl, HB.out⟩
end Go.Proofs.YtbmcngoeinginaaGreatDoor
