/-
 Of the reference: Steps.
-/
import Derived.Test.YtbmcngoeinginaaGreatDoorKRef
import Derived.Test.YtbmcngoeinginaaGreatDoorPushP
namespace Go.Proofs.YtbmcngoeinginaaGreatDoor
open Go Go.RowKit
def stAt (q : Nat) : Int × Int := (((q / 8 + 1 : Nat) : Int), ((q % 8 : Nat) : Int))
def stepsQ (q : Nat) : List (Int × Int) := ((List.range q).map stAt).filter (okStep 8 6 4)
theorem stepsQ_succ (q : Nat) : stepsQ (q + 1) = stepsQ q ++ if okStep 8 6 4 (stAt q) = true then [stAt q] else [] := by
 unfold stepsQ
 rw [List.range_succ, List.map_append, List.filter_append]
 congr 1
 by_cases h : okStep 8 6 4 (stAt q) = true <;> simp [h]
theorem stepsQ_len (q : Nat) : (stepsQ q).length ≤ q := by
 unfold stepsQ
 refine Nat.le_trans (List.length_filter_le _ _) ?_
 simp
theorem stAt_at (i j : Nat) (hj : j < 8) : stAt (i * 8 + j) = (((i + 1 : Nat) : Int), (j : Int)) := by
 unfold stAt
 rw [show (i * 8 + j) / 8 = i by omega, show (i * 8 + j) % 8 = j by omega]
set_option maxRecDepth 100000 in
set_option maxHeartbeats 4000000 in
theorem steps_any (w : World) :
   Calls Tryz.prog 114 #[] w fun e w' => ∃ v, e = .returned v ∧ OwnStp w.heap.size w' v (stepsQ 80) ∧ Below w.heap.size w w' := by
 go_enter Tryz.func114, Tryz.ntmps114
 go_wp2_with fail
 have ho := ownP_empty w w.heap.size rfl
 have hb : Below w.heap.size w (w.alloc (.cells #[] 91)) := below_alloc (Below.refl _ _) _
 generalize w.alloc (.cells #[] 91) = w1 at *
 go_loopw [1, 2] (fun o i wr => ∃ p : Nat, p ≤ 10 ∧ i = .int .i64 ((p : Int) + 1) ∧ OwnStp w.heap.size wr o (stepsQ (p * 8)) ∧ Below w.heap.size w wr)
   (fun _ i _ => 11 - (intOf i).toNat)
 case atStart => exact ⟨0, by omega, rfl, ho, hb⟩
 case round =>
   clear ho hb;obtain ⟨p, hp, rfl, ho, hbw⟩ := hrel
   by_cases hlt : p < 10
   · have t1 : decide ((p : Int) + 1 ≤ 10) = true := by simp; omega
     go_wp2
     go_loopw [1, 3] (fun o j wr => ∃ q : Nat, q ≤ 8 ∧ j = .int .i64 q ∧ OwnStp w.heap.size wr o (stepsQ (p * 8 + q)) ∧ Below w.heap.size w wr)
       (fun _ j _ => 8 - (intOf j).toNat)
     case atStart => exact ⟨0, by omega, rfl, ho, hbw⟩
     case round =>
       clear ho hbw;obtain ⟨q, hq, rfl, ho, hbw⟩ := hrel
       by_cases hql : q < 8
       · have hsn := stepsQ_succ (p * 8 + q)
         rw [stAt_at p q hql] at hsn;have hlen := stepsQ_len (p * 8 + q);generalize stepsQ (p * 8 + q) = L at ho hsn hlen;have HSN := Lib.hid hsn;have HLEN := Lib.hid (show L.length < 2000 by omega);have hb5 : Below wr.heap.size wr (wr.alloc (.cells #[.int .i64 ((p : Int) + 1), .int .i64 (q : Int)] 91)) := below_alloc (Below.refl _ _) _
         obtain ⟨e0, e1⟩ : (wr.alloc (.cells #[.int .i64 ((p : Int) + 1), .int .i64 (q : Int)] 91)).cell? ⟨wr.heap.size, 0, none⟩ = some (.int .i64 ((p : Int) + 1)) ∧ (wr.alloc (.cells #[.int .i64 ((p : Int) + 1), .int .i64 (q : Int)] 91)).cell? ⟨wr.heap.size, 1, none⟩ = some (.int .i64 (q : Int)) :=
           ⟨cell_new_at _ _ _ _ _ _ rfl rfl, cell_new_at _ _ _ _ _ _ rfl rfl⟩
         have ho5 := ho.below hb5;have hbw5 := below_step hbw hb5;clear ho hsn hlen t1
         go_wp2_with fail
         generalize wr.alloc (.cells #[.int .i64 ((p : Int) + 1), .int .i64 (q : Int)] 91) = w5 at *;have HST := Lib.hid (qstep_any ((p : Int) + 1) q 8 6 4 w5)
         cases hok : okStep 8 6 4 ((p : Int) + 1, (q : Int)) with
         | false =>
           have HK := Lib.hid hok;clear hok;refine HST.out.mono ?_;rintro e w6 ⟨rfl, hb6⟩;rw [HK.out];have ho6 := ho5.below hb6;have hbw6 := below_step hbw5 hb6;clear ho5 hbw5 hb6 hb5 hbw e0 e1;go_wp2
           go_roundw
           case rel => exact ⟨q + 1, by omega, by simp, by rw [show p * 8 + (q + 1) = p * 8 + q + 1 by omega, HSN.out, show ((p + 1 : Nat) : Int) = (p : Int) + 1 by omega, HK.out]; simpa using ho6, hbw6⟩
           case measure => simp [intOf]; omega
         | true =>
           have HK := Lib.hid hok;clear hok;refine HST.out.mono ?_;rintro e w6 ⟨rfl, hb6⟩;rw [HK.out];have ho6 := ho5.below hb6;have hbw6 := below_step hbw5 hb6;replace e0 := cell_keep hb6 e0;replace e1 := cell_keep hb6 e1;have hb7 : Below w6.heap.size w6 (w6.alloc (.cells #[.int .i64 ((p : Int) + 1), .int .i64 (q : Int)] 91)) := below_alloc (Below.refl _ _) _;have HO7 := Lib.hid (ho6.below hb7);have HBW7 := Lib.hid (below_step hbw6 hb7);have HPL := Lib.hid (prg_lit w6 w6.heap.size ((p : Int) + 1) q rfl);clear ho5 hbw5 hb6 hb5 hbw ho6
           go_wp2_with (at_builtin; go_loud (refine wpList_pushP rfl 67 ty_steps (.tmp 19) (.tmp 21) rfl w.heap.size _ _ L rfl HO7.out HLEN.out HBW7.out.size w6.heap.size 0 1 1 [((p : Int) + 1, (q : Int))] rfl rfl (by simp) HPL.out ?_; intro v8 w8 hown8 hg8))
           have hb8 := pushP_below HBW7.out HBW7.out.size HO7.out hg8;clear hg8 hbw6 hb7 e0 e1
           go_roundw
           case rel => exact ⟨q + 1, by omega, by simp, by rw [show p * 8 + (q + 1) = p * 8 + q + 1 by omega, HSN.out, show ((p + 1 : Nat) : Int) = (p : Int) + 1 by omega, HK.out]; simpa using hown8, hb8⟩
           case measure => simp [intOf]; omega
       · obtain rfl : q = 8 := by omega
         go_wp2
         go_roundw
         case rel => exact ⟨p + 1, by omega, by simp, by rw [show (p + 1) * 8 = p * 8 + 8 by omega]; exact ho, hbw⟩
         case measure => simp [intOf]; omega
   · obtain rfl : p = 10 := by omega
     go_wp2
     go_ret
     exact ⟨_, rfl, ho, hbw⟩
end Go.Proofs.YtbmcngoeinginaaGreatDoor
