/-
  IndexSums.
-/
import Derived.Test.YtepbmgbomdekaaaXLaw
namespace Go.Proofs.Ytepbmgbomdekaaa
open Go Go.RowKit

set_option maxRecDepth 100000 in
set_option maxHeartbeats 4000000 in
theorem sums_any (z : Nat) (hz : z ≤ 255) (w : World) : Calls Try.prog 7 #[.int .u8 (z : Int)] w fun e w' => e = .returned (.bool true) ∧ Below w.heap.size w w' := by
  obtain ⟨bc, hbc⟩ : ∃ bc, bc = 1 + z % 8 := ⟨_, rfl⟩
  have HBC := Lib.hid (show (1 : Int) + (z : Int) % 8 = (bc : Int) by rw [hbc]; omega)
  have hb8 : bc ≤ 8 := by omega
  have hb1 : 1 ≤ bc := by omega
  clear hbc
  have HSA := Lib.hid (sanity_any w)
  go_enter Try.func7, Try.ntmps7
  go_upto_region 2 with (go_at_call 9; refine HSA.out.mono ?_; rintro e w1 ⟨rfl, hb1'⟩)
  go_upto_region 3 with (fail)
  rw [HBC.out]
  have HBL := Lib.hid (blank_any bc 1 w1 (by omega) (by omega) (by omega))
  go_upto_region 4 with (go_at_call 24; refine HBL.out.mono ?_; rintro e w2 ⟨an, at_, ak, ck, rfl, hk2, hb2⟩)
  have hG := SG.made (bc := bc) (an := an) (at_ := at_) (ck := ck) (below_step hb1' hb2) hk2
  clear HBL hb2 hk2 hb1' HSA
  generalize w2.alloc (.cells #[.int .i64 (bc : Int), .slice an 1 1, .slice at_ 1 1, .slice ak 1 ck, .int .i64 2, .bool false, .slice none 0 0, .int .i64 3, .int .i64 2] 35) = w3 at *
  generalize w2.heap.size = g at *
  have HG := Lib.hid hG
  clear hG
  go_wp2
  go_loopw [6, 8] (fun v i wr => ∃ k : Nat, k ≤ bc ∧ i = .int .i64 k ∧ v = .int .i64 ((3 ^ k : Nat) : Int) ∧ wr = w3) (fun _ i _ => bc - (intOf i).toNat)
  case atStart => exact ⟨0, Nat.zero_le _, rfl, rfl, rfl⟩
  case round =>
    obtain ⟨k, hk, rfl, rfl, rfl⟩ := hrel
    by_cases hlt : k < bc
    · have hp := pow3_le (show k ≤ 8 by omega)
      have HP := Lib.hid (show 3 ^ (k + 1) = 3 ^ k * 3 from rfl)
      generalize 3 ^ k = T at *
      have t1 : decide ((k : Int) < (bc : Int)) = true := by simp; omega
      go_wp2
      go_roundw
      case rel => exact ⟨k + 1, by omega, by go_num, by rw [HP.out]; go_num, trivial⟩
      case measure => simp [intOf]; omega
    · obtain rfl : bc = k := by omega
      have t1 : decide ((bc : Int) < (bc : Int)) = false := by simp
      have hp := pow3_le (show bc ≤ 8 by omega)
      have HSU := Lib.hid (sums bc (by omega))
      generalize 3 ^ bc = T at *
      go_upto_region 8 with (fail)
      go_wp2
      go_loopw [5, 9, 10, 11, 12] (fun v i _ _ _ wr => ∃ (a S : Nat), a ≤ bc + 1 ∧ i = .int .i64 a ∧ v = .int .i64 S ∧ Hid (S = sumA bc a) ∧ Hid (SG w g (GB bc 1 an at_ ak ck) g ak (blankK 1) wr)) (fun _ i _ _ _ _ => bc + 1 - (intOf i).toNat)
      case atStart => exact ⟨0, 0, Nat.zero_le _, rfl, rfl, Lib.hid rfl, HG⟩
      case round =>
        clear HG
        obtain ⟨a, S, ha, rfl, rfl, HS, HG⟩ := hrel
        by_cases hla : a ≤ bc
        · have t2 : decide ((a : Int) ≤ (bc : Int)) = true := by simp; omega
          go_upto_region 12 with (fail)
          go_loopw [5, 10, 11, 12] (fun v i _ _ wi => ∃ (b S2 : Nat), b ≤ bc - a + 1 ∧ i = .int .i64 b ∧ v = .int .i64 S2 ∧ Hid (S2 = sumA bc a + sumB bc a b) ∧ Hid (SG w g (GB bc 1 an at_ ak ck) g ak (blankK 1) wi)) (fun _ i _ _ _ => bc - a + 1 - (intOf i).toNat)
          case atStart => exact ⟨0, S, Nat.zero_le _, rfl, rfl, Lib.hid (by rw [HS.out]; rfl), HG⟩
          case round =>
            clear HS HG
            obtain ⟨b, S2, hb, rfl, rfl, HS, HG⟩ := hrel
            by_cases hlb : a + b ≤ bc
            · have t3 : decide ((a : Int) + (b : Int) ≤ (bc : Int)) = true := by simp; omega
              obtain ⟨c9, hc9⟩ : ∃ c9, c9 = bc - a - b := ⟨_, rfl⟩
              have HC9 := Lib.hid (show (bc : Int) - (a : Int) - (b : Int) = (c9 : Int) by omega)
              obtain ⟨hb3, n0, n1, n2, -⟩ := three_boxes wr #[.int .i64 ((bc : Int) - (a : Int) - (b : Int)), .int .i64 (a : Int), .int .i64 (b : Int)] #[.int .i64 0] #[.int .i64 0] 3 3 3
              have hG3 := HG.out.up hb3
              have hsum : [c9, a, b].sum = bc := by simp; omega
              have hw1 : ways [c9, a, b] ≤ 40320 := by
                refine Nat.le_trans (ways_le _) ?_
                rw [hsum]
                have : ∀ m : Fin 9, fct m.val ≤ 40320 := by decide
                exact this ⟨bc, by omega⟩
              have hv : sizeV bc 2 (blankK 1) ⟨zs [c9, a, b], [0], [0], 0, 0⟩ = (ways [c9, a, b], 0) := by
                refine (size_one (bc := bc) (l := [c9, a, b]) rfl hsum [0] [0] rfl rfl 0 0 rfl rfl).trans ?_
                rw [if_pos (by omega)]
              have HSZ := sizeG (by omega) (by omega) hG3 (x := some ⟨wr.heap.size, 0, none⟩) (x0 := some ⟨wr.heap.size + 1, 0, none⟩) (x1 := some ⟨wr.heap.size + 1 + 1, 0, none⟩) (c := 3) (c0 := 1) (c1 := 1) (p := ⟨zs [c9, a, b], [0], [0], 0, 0⟩) ⟨by simp [maxLen, zs], by simp [maxLen], by simp [maxLen]⟩ ⟨ints_lit n0 (zs [c9, a, b]) (by rw [HC9.out]; rfl), ints_lit n1 [0] rfl, ints_lit n2 [0] rfl⟩
              rw [hv] at HSZ
              have HZ := Lib.hid HSZ
              have hg9 := HG.out.hg
              have hstep : sumB bc a (b + 1) = sumB bc a b + ways [c9, a, b] := by rw [sumB_step, hc9]
              have hle : S2 + ways [c9, a, b] ≤ 6561 := by
                have h1 := sumB_le bc a (show b + 1 ≤ bc - a + 1 by omega)
                have h2 := sumA_le bc (show a + 1 ≤ bc + 1 by omega)
                rw [sumA_step] at h2
                have := HS.out
                have := HSU.out
                omega
              have HS3 := Lib.hid (show S2 + ways [c9, a, b] = sumA bc a + sumB bc a (b + 1) by rw [hstep, HS.out]; omega)
              have HG3 := Lib.hid hG3
              clear HSZ hv hw1 hsum n0 n1 n2 hc9 hstep hG3 hb3 HS HG
              generalize ways [c9, a, b] = W9 at *
              go_wp2_with (first | (refine wpList_load_row rfl 35 (.tmp 7) rfl g rfl 35 _ (0, 0) _ hg9 Try.underlying35 rfl info_game ?_) | (go_at_call 14; refine HZ.out.mono ?_; rintro e w' ⟨rfl, hb4⟩))
              go_roundw
              case rel => exact ⟨b + 1, S2 + W9, by omega, by go_num, by go_num, HS3, Lib.hid (HG3.out.up hb4)⟩
              case measure => simp [intOf]; omega
            · have t3 : decide ((a : Int) + (b : Int) ≤ (bc : Int)) = false := by simp; omega
              have HS3 := Lib.hid (show S2 = sumA bc (a + 1) by rw [sumA_step, HS.out, show b = bc - a + 1 by omega])
              go_wp2
              go_roundw
              case rel => exact ⟨a + 1, S2, by omega, by go_num, rfl, HS3, HG⟩
              case measure => simp [intOf]; omega
        · obtain rfl : a = bc + 1 := by omega
          have t2 : decide (((bc + 1 : Nat) : Int) ≤ (bc : Int)) = false := by simp; omega
          have t2' : decide ((bc : Int) + 1 ≤ (bc : Int)) = false := by simp; omega
          have HE := Lib.hid (show S = T by rw [HS.out, HSU.out])
          have t4 : ((S : Int) == (T : Int)) = true := by rw [HE.out]; simp
          have t4' : decide (S = T) = true := by rw [HE.out]; simp
          clear HS
          go_wp2
          go_ret
          exact ⟨rfl, HG.out.b⟩
end Go.Proofs.Ytepbmgbomdekaaa
