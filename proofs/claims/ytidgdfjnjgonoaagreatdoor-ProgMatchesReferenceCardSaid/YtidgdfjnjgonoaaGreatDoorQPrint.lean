/-
  Of the reference: Print.
-/
import Derived.Test.YtidgdfjnjgonoaaGreatDoorQWord
import Derived.Test.YtidgdfjnjgonoaaGreatDoorQValid
namespace Go.Proofs.YtidgdfjnjgonoaaGreatDoor
open Go Go.RowKit Go.Sort Go.Lib

def rjoinTo (l : List (Int × Int)) (q : Nat) : List UInt8 := join ((l.take q).map rwordS) [32]
theorem join_snoc (xs : List (List UInt8)) (x : List UInt8) (h : xs ≠ []) : join (xs ++ [x]) [32] = join xs [32] ++ 32 :: x := by
  cases xs with
  | nil => exact absurd rfl h
  | cons y r =>
    rw [List.cons_append, join_cons, join_cons, List.append_assoc]
    congr 1
    induction r with
    | nil => simp [joinTail]
    | cons z r ih => 
      have e1 : joinTail [32] (z :: r ++ [x]) = 32 :: (z ++ joinTail [32] (r ++ [x])) := by simp [joinTail]
      have e2 : joinTail [32] (z :: r) = 32 :: (z ++ joinTail [32] r) := by simp [joinTail]
      rw [e1, e2, ih (by simp)]
      simp
theorem rjoin_succ (l : List (Int × Int)) (q : Nat) (h0 : 1 ≤ q) (h : q < l.length) : rjoinTo l (q + 1) = rjoinTo l q ++ 32 :: rwordS (l[q]?.getD (0, 0)) := by
  unfold rjoinTo
  rw [List.take_add_one, List.getElem?_eq_getElem h, Option.toList_some, List.map_append, List.map_cons, List.map_nil, Option.getD_some]
  exact join_snoc _ _ (by
    intro e
    rw [List.map_eq_nil_iff, List.take_eq_nil_iff] at e
    rcases e with rfl | rfl
    · omega
    · simp at h)
theorem rjoin_one (l : List (Int × Int)) (h : 1 ≤ l.length) : rjoinTo l 1 = rwordS (l[0]?.getD (0, 0)) := by
  unfold rjoinTo
  cases l with
  | nil => simp at h
  | cons x r => simp [join_one]
theorem rjoin_len (l : List (Int × Int)) (hv : validP l 8 6 4 = true) : ∀ q, q ≤ l.length → (rjoinTo l q).length ≤ 8 * q
  | 0, _ => by simp [rjoinTo, join]
  | q + 1, h => by
    obtain ⟨op, n, e, _, _, _⟩ := valid_step hv (j := q) (by omega)
    have hw := rword_len op n
    by_cases h0 : 1 ≤ q
    · have ih := rjoin_len l hv q (by omega)
      rw [rjoin_succ l q h0 (by omega), e]
      simp only [List.length_append, List.length_cons]
      omega
    · obtain rfl : q = 0 := by omega
      rw [rjoin_one l (by omega), e]
      omega

set_option maxRecDepth 100000 in
set_option maxHeartbeats 2000000 in
theorem rprint_any (l : List (Int × Int)) (a : Option Addr) (c N : Nat) (w : World) (hl : l.length ≤ 100) (hN : N ≤ w.heap.size) (hI : Prg N w a l) :
    Calls Tryz.prog 21 #[.slice a l.length c] w fun e w' => e = .returned (strV (printS l)) ∧ Below w.heap.size w w' := by
  rw [← rprint_eq]
  have HV := Lib.hid (rvalid_any l a c 8 6 4 N w hl hN hI)
  cases hv : validP l 8 6 4 with
  | false =>
    have HO := Lib.hid (by unfold rprintS; rw [hv]; rfl : rprintS l = [])
    have HX := Lib.hid hv
    clear hv
    go_enter Tryz.func21, Tryz.ntmps21
    go_wp2_with fail
    refine HV.out.mono ?_
    rintro e w' ⟨rfl, hb⟩
    rw [HX.out]
    go_wp2
    go_ret
    exact ⟨by rw [HO.out]; rfl, hb⟩
  | true =>
    have HO := Lib.hid (by unfold rprintS; rw [if_pos hv]; unfold rjoinTo; rw [List.take_length] : rprintS l = rjoinTo l l.length)
    have HX := Lib.hid hv
    obtain ⟨hl1, hl8⟩ := valid_len hv
    clear hv
    go_enter Tryz.func21, Tryz.ntmps21
    go_wp2_with fail
    refine HV.out.mono ?_
    rintro e w1 ⟨rfl, hb1⟩
    rw [HX.out]
    have HI1 := Lib.hid (hI.up hN hb1)
    have hN1 := Nat.le_trans hN hb1.size
    clear HV
    obtain ⟨bs, fs, hab, hbN, hop, hnn⟩ := HI1.out.at_ (j := 0) (by omega)
    obtain ⟨op, n, hx, _, h11, h8⟩ := valid_step HX.out (j := 0) (by omega)
    have HR1 := Lib.hid (rjoin_one l hl1)
    rw [hx] at hop hnn
    rw [hx] at HR1
    cases hab
    dsimp only at hop hnn
    rw [Nat.zero_mul, Nat.add_zero] at hop hnn
    have hbw : bs < w1.heap.size := by omega
    clear hx
    go_wp2_with fail
    refine (rword_any op n w1 h11 h8).mono ?_
    rintro e w2 ⟨rfl, hb2⟩
    rw [← HR1.out]
    have hb12 := below_step hb1 hb2
    clear hop hnn
    unfold strV
    go_wp2_with fail
    go_loopw [3, 4] (fun o i wr => ∃ q : Nat, 1 ≤ q ∧ q ≤ l.length ∧ i = .int .i64 q ∧ o = .string ⟨(rjoinTo l q).toArray⟩ ∧ Below w.heap.size w wr)
      (fun _ i _ => l.length - (intOf i).toNat)
    case atStart => exact ⟨1, by omega, hl1, rfl, rfl, hb12⟩
    case round =>
      obtain ⟨q, hq1, hq, rfl, rfl, hbr⟩ := hrel
      by_cases hlt : q < l.length
      · obtain ⟨bs', fs', hab', hbN', hop, hnn⟩ := (hI.up hN hbr).at_ hlt
        cases hab'
        obtain ⟨op', n', hx, _, h11', h8'⟩ := valid_step HX.out hlt
        have HS := Lib.hid (rjoin_succ l q hq1 hlt)
        have HLn := Lib.hid (rjoin_len l HX.out q (by omega))
        have hwl := rword_len op' n'
        rw [hx] at hop hnn
        rw [hx] at HS
        dsimp only at hop hnn
        have hbw' : bs < wr.heap.size := by have := hbr.size; omega
        have hln := HLn.out
        generalize rjoinTo l q = J at *
        clear hx
        go_wp2_with fail
        refine (rword_any op' n' wr h11' h8').mono ?_
        rintro e w3 ⟨rfl, hb3⟩
        have hbr3 := below_step hbr hb3
        generalize rwordS ((op' : Int), (n' : Int)) = wd at *
        have hs1 : ¬ 9223372036854775807 < [(32 : UInt8)].length + wd.length := by simp; omega
        have hs2 : ¬ 9223372036854775807 < 1 + wd.length := by omega
        have hs3 : ¬ 9223372036854775807 < J.length + (1 + wd.length) := by omega
        have hs4 : ¬ 9223372036854775807 < J.length + (wd.length + 1) := by omega
        clear hop hnn
        unfold strV
        go_wp2
        go_roundw
        case rel => exact ⟨q + 1, by omega, by omega, by simp, by rw [HS.out]; simp [ByteArray.ext_iff], hbr3⟩
        case measure => simp [intOf]; omega
      · obtain rfl : q = l.length := by omega
        go_wp2
        go_ret
        exact ⟨by rw [HO.out]; rfl, hbr⟩
end Go.Proofs.YtidgdfjnjgonoaaGreatDoor
