/-
  arrangements and fill of the program; choose and Ways of the reference.
-/
import Derived.Test.YtepbmgbomdekaaaXM
import Derived.Test.YtepbmgbomdekaaaDEq
namespace Go.Proofs.Ytepbmgbomdekaaa
open Go Go.RowKit

theorem Ints.zat {n : Nat} {W : World} {a : Option Addr} {l : List Nat} (h : Ints n W a (zs l)) {j : Nat} (hj : j < l.length) :
    ∃ b off, a = some ⟨b, off, none⟩ ∧ W.cell? ⟨b, off + j, none⟩ = some (.int .i64 ((l.getD j 0 : Nat) : Int)) := by
  obtain ⟨b, off, rfl, _, hc⟩ := h.at_ (j := j) (by rw [zs_len]; exact hj)
  rw [zs_get] at hc
  exact ⟨b, off, rfl, hc⟩

set_option maxRecDepth 100000 in
set_option maxHeartbeats 1000000 in
theorem fill_any (l : List Int) (a : Option Addr) (ct N : Nat) (c0 : Int) (w : World) (hl : l.length ≤ maxLen) (hc0 : c0 ≤ 1000) (hI : Ints N w a l) :
    Calls Try.prog 35 #[.slice a l.length ct, .int .i64 c0] w fun e w' => e = .returned (.bool (fillF l c0)) ∧ w' = w := by
  unfold maxLen at hl
  obtain ⟨R, hR⟩ : ∃ R, fillF l c0 = R := ⟨_, rfl⟩
  rw [hR]
  have HR := Lib.hid hR
  clear hR
  go_enter Try.func35, Try.ntmps35
  go_wp2
  go_loopw [1, 9] (fun v i wr => ∃ (k : Nat) (c : Int), k ≤ l.length ∧ i = .int .i64 k ∧ v = .int .i64 c ∧ Hid (fillF (l.drop k) c = R) ∧ c ≤ 1000 ∧ wr = w) (fun _ i _ => l.length - (intOf i).toNat)
  case atStart => exact ⟨0, c0, Nat.zero_le _, rfl, rfl, HR, hc0, rfl⟩
  case round =>
    obtain ⟨k, c, hk, rfl, rfl, HK, hc9, rfl⟩ := hrel
    by_cases hlt : k < l.length
    · obtain ⟨b, off, hab, hbN, hc⟩ := hI.at_ hlt
      subst hab
      have hst : fillF (l.drop k) c = if l[k]?.getD 0 < 0 then false else if c < l[k]?.getD 0 then false else fillF (l.drop (k + 1)) (c - l[k]?.getD 0) := by rw [List.drop_eq_getElem_cons hlt, List.getElem?_eq_getElem hlt]; rfl
      rw [HK.out] at hst
      generalize l[k]?.getD 0 = x at hc hst
      have HST := Lib.hid hst
      clear hst hI
      by_cases h0 : x < 0
      · have t0 : decide (x < 0) = true := by simpa using h0
        have HF := Lib.hid (show R = false by rw [HST.out, if_pos h0])
        clear h0
        go_wp2
        go_ret
        exact ⟨by rw [HF.out]; rfl, rfl⟩
      · have t0 : decide (x < 0) = false := by simpa using h0
        by_cases h1 : c < x
        · have t1 : decide (c < x) = true := by simpa using h1
          have HF := Lib.hid (show R = false by rw [HST.out, if_neg h0, if_pos h1])
          clear h0 h1
          go_wp2
          go_ret
          exact ⟨by rw [HF.out]; rfl, rfl⟩
        · have t1 : decide (c < x) = false := by simpa using h1
          have HF := Lib.hid (show fillF (l.drop (k + 1)) (c - x) = R by rw [HST.out, if_neg h0, if_neg h1])
          have hx0 : 0 ≤ x := by omega
          have hx1 : x ≤ c := by omega
          clear h0 h1
          go_wp2
          go_roundw
          case rel => exact ⟨k + 1, _, by omega, by go_num, rfl, HF, by omega, trivial⟩
          case measure => simp [intOf]; omega
    · obtain rfl : k = l.length := by omega
      have HF := Lib.hid (show R = decide (c = 0) by rw [← HK.out, List.drop_eq_nil_of_le (Nat.le_refl _)]; rfl)
      clear hI
      go_wp2
      go_ret
      exact ⟨by rw [HF.out]; rfl, rfl⟩

set_option maxRecDepth 100000 in
set_option maxHeartbeats 2000000 in
theorem arr_any (l : List Nat) (a : Option Addr) (ct N : Nat) (w : World) (hl : l.length ≤ 1000) (hs : l.sum ≤ 64) (hI : Ints N w a (zs l)) :
    Calls Try.prog 34 #[.slice a l.length ct] w fun e w' => (∃ v : Nat, Told (ways l) v ∧ e = .returned (.int .i64 (v : Int))) ∧ w' = w := by
  go_enter Try.func34, Try.ntmps34
  go_wp2
  go_loopw [3, 4, 10] (fun v s i wr => ∃ (k W S : Nat), k ≤ l.length ∧ i = .int .i64 k ∧ v = .int .i64 W ∧ s = .int .i64 S ∧ Hid (W = ways (l.take k)) ∧ Hid (S = (l.take k).sum) ∧ W ≤ 1099511627776 ∧ S ≤ 64 ∧ wr = w) (fun _ _ i _ => l.length - (intOf i).toNat)
  case atStart => exact ⟨0, 1, 0, Nat.zero_le _, rfl, rfl, rfl, Lib.hid (by simp [ways, waysF]), Lib.hid (by simp), by omega, by omega, rfl⟩
  case round =>
    obtain ⟨k, W, S, hk, rfl, rfl, rfl, HW, HS, hW, hS, rfl⟩ := hrel
    by_cases hlt : k < l.length
    · obtain ⟨b, off, rfl, hc⟩ := hI.zat hlt
      have HT := Lib.hid (take_one l k hlt)
      have HTL := Lib.hid (ways_take_le l (k + 1))
      have HSL := Lib.hid (sum_take_le l (k + 1))
      have hxs : (l.take k).sum + l.getD k 0 ≤ 64 := by have := sum_take_le l (k + 1); rw [sum_take] at this; omega
      have HXS := Lib.hid hxs
      have hx64 : l.getD k 0 ≤ 64 := by omega
      generalize l.getD k 0 = x at *
      clear hxs hI
      go_upto_region 6 with (fail)
      go_loopw [3, 4, 15] (fun v s i wi => ∃ (q W S : Nat), q ≤ x ∧ i = .int .i64 q ∧ v = .int .i64 W ∧ s = .int .i64 S ∧ Hid (W = ways (l.take k ++ [q])) ∧ Hid (S = (l.take k).sum + q) ∧ W ≤ 1099511627776 ∧ S ≤ 64 ∧ wi = wr) (fun _ _ i _ => x - (intOf i).toNat)
      case atStart => exact ⟨0, W, S, Nat.zero_le _, rfl, rfl, rfl, Lib.hid (by rw [ways_app0]; exact HW.out), Lib.hid (by have := HS.out; omega), hW, hS, rfl⟩
      case round =>
        clear HW HS hW hS
        obtain ⟨q, W, S, hq, rfl, rfl, rfl, HW, HS, hW, hS, rfl⟩ := hrel
        by_cases hqx : q < x
        · have HD := Lib.hid (show W * (S + 1) / (q + 1) = ways (l.take k ++ [q + 1]) by rw [HW.out, HS.out]; exact ways_app_div _ _)
          have hS1 : S + 1 ≤ 64 := by have := HXS.out; have := HS.out; omega
          have hm : W * (S + 1) ≤ 1099511627776 * 64 := Nat.mul_le_mul hW hS1
          have hm2 : W * (S + 1) / (q + 1) ≤ W * (S + 1) := Nat.div_le_self _ _
          have e1 : (W : Int) * ((S : Int) + 1) = ((W * (S + 1) : Nat) : Int) := by push_cast; rfl
          have e2 : ((W * (S + 1) : Nat) : Int) / ((q : Int) + 1) = ((W * (S + 1) / (q + 1) : Nat) : Int) := by push_cast; rfl
          have HE1 := Lib.hid e1
          have HE2 := Lib.hid e2
          have hm3 : (W : Int) * ((S : Int) + 1) ≤ 72057594037927936 := by rw [e1]; omega
          have hm4 : 0 ≤ (W : Int) * ((S : Int) + 1) := by rw [e1]; omega
          clear e1 e2
          go_upto_region 10 with (fail)
          rw [HE1.out, HE2.out]
          generalize hV : W * (S + 1) / (q + 1) = V at *
          clear hm3 hm4
          by_cases hv : V ≤ 1099511627776
          · have t1 : decide ((1099511627776 : Int) < (V : Int)) = false := by simp; omega
            go_wp2
            go_roundw
            case rel => exact ⟨q + 1, V, S + 1, by omega, by go_num, rfl, by go_num, HD, Lib.hid (by have := HS.out; omega), hv, by omega, trivial⟩
            case measure => simp [intOf]; omega
          · have t1 : decide ((1099511627776 : Int) < (V : Int)) = true := by simp; omega
            have HF := Lib.hid (show Told (ways l) V from .inr ⟨by
              have h1 := HTL.out
              rw [HT.out] at h1
              have h2 := ways_app_le (l.take k) (show q + 1 ≤ x by omega)
              rw [← HD.out] at h2
              omega, by omega, by omega⟩)
            go_wp2
            go_ret
            exact ⟨⟨V, HF.out, rfl⟩, rfl⟩
        · obtain rfl : q = x := by omega
          have HW2 := Lib.hid (show W = ways (l.take (k + 1)) by rw [HT.out]; exact HW.out)
          have HS2 := Lib.hid (show S = (l.take (k + 1)).sum by rw [HT.out, HS.out]; simp)
          go_wp2
          go_roundw
          case rel => exact ⟨k + 1, W, S, by omega, by go_num, rfl, rfl, HW2, HS2, hW, hS, trivial⟩
          case measure => simp [intOf]; omega
    · obtain rfl : k = l.length := by omega
      have HF := Lib.hid (show Told (ways l) W from .inl ⟨by rw [← List.take_length (l := l), ← HW.out]; exact hW, by rw [HW.out, List.take_length]⟩)
      clear hI
      go_wp2
      go_ret
      exact ⟨⟨W, HF.out, rfl⟩, rfl⟩

set_option maxRecDepth 100000 in
set_option maxHeartbeats 2000000 in
theorem choose_any (n k : Nat) (w : World) (hk : k ≤ n) (hn : n ≤ 64) :
    Calls Try.prog 42 #[.int .i64 (n : Int), .int .i64 (k : Int)] w fun e w' => (∃ v : Nat, Told (ch n k) v ∧ e = .returned (.int .i64 (v : Int))) ∧ w' = w := by
  have HM := Lib.hid (ch_min n k hk)
  obtain ⟨d, hd⟩ : ∃ d, d = min k (n - k) := ⟨_, rfl⟩
  rw [← hd] at HM
  have hdn : d ≤ n := by omega
  go_enter Try.func42, Try.ntmps42
  go_upto_region 1 with (fail)
  go_cut [1] (fun v wx => v = .int .i64 (d : Int) ∧ wx = w)
  case first =>
    have HD := Lib.hid hd
    clear hd
    by_cases h : (k : Int) ≤ (n : Int) - (k : Int)
    · have e : d = k := by have := HD.out; omega
      subst e
      go_wp2
      go_meet
      case rel => exact ⟨rfl, rfl⟩
    · have e : (d : Int) = (n : Int) - (k : Int) := by have := HD.out; omega
      go_wp2
      go_meet
      case rel => exact ⟨by rw [e], rfl⟩
  case rest =>
    obtain ⟨rfl, rfl⟩ := hcut
    clear hd
    obtain ⟨m, hm⟩ : ∃ m, m + d = n := ⟨n - d, by omega⟩
    have HN := Lib.hid hm
    rw [← hm] at HM
    clear hm
    go_wp2
    go_loopw [5, 6] (fun v i wr => ∃ (j W : Nat), j ≤ d ∧ i = .int .i64 ((j : Int) + 1) ∧ v = .int .i64 W ∧ Hid (W = ch (m + j) j) ∧ W ≤ 1099511627776 ∧ wr = wc) (fun _ i _ => d + 1 - (intOf i).toNat)
    case atStart => exact ⟨0, 1, Nat.zero_le _, rfl, rfl, Lib.hid (by rw [ch_zero]), by omega, rfl⟩
    case round =>
      obtain ⟨j, W, hj, rfl, rfl, HW, hW, rfl⟩ := hrel
      by_cases hlt : j < d
      · have HD := Lib.hid (show W * (m + j + 1) / (j + 1) = ch (m + (j + 1)) (j + 1) by rw [HW.out]; exact ch_step_div m j)
        have hm1 : W * (m + j + 1) ≤ 1099511627776 * 65 := Nat.mul_le_mul hW (by have := HN.out; omega)
        have hm2 : W * (m + j + 1) / (j + 1) ≤ W * (m + j + 1) := Nat.div_le_self _ _
        have e1 : (W : Int) * ((n : Int) - (d : Int) + ((j : Int) + 1)) = ((W * (m + j + 1) : Nat) : Int) := by
          have : (n : Int) - (d : Int) + ((j : Int) + 1) = ((m + j + 1 : Nat) : Int) := by have := HN.out; omega
          rw [this]; push_cast; rfl
        have e2 : ((W * (m + j + 1) : Nat) : Int) / ((j : Int) + 1) = ((W * (m + j + 1) / (j + 1) : Nat) : Int) := by push_cast; rfl
        have HE1 := Lib.hid e1
        have HE2 := Lib.hid e2
        have hm3 : (W : Int) * ((n : Int) - (d : Int) + ((j : Int) + 1)) ≤ 72057594037927936 := by rw [e1]; omega
        have hm4 : 0 ≤ (W : Int) * ((n : Int) - (d : Int) + ((j : Int) + 1)) := by rw [e1]; omega
        have t0 : decide ((j : Int) + 1 ≤ (d : Int)) = true := by simp; omega
        clear e1 e2
        go_upto_region 7 with (fail)
        rw [HE1.out, HE2.out]
        generalize hV : W * (m + j + 1) / (j + 1) = V at *
        clear hm3 hm4
        by_cases hv : V ≤ 1099511627776
        · have t1 : decide ((1099511627776 : Int) < (V : Int)) = false := by simp; omega
          go_wp2
          go_roundw
          case rel => exact ⟨j + 1, V, by omega, by go_num, rfl, HD, hv, trivial⟩
          case measure => simp [intOf]; omega
        · have t1 : decide ((1099511627776 : Int) < (V : Int)) = true := by simp; omega
          have HF := Lib.hid (show Told (ch n k) V from .inr ⟨by
            have h2 := ch_diag_le m (show j + 1 ≤ d by omega)
            rw [← HD.out, HM.out] at h2
            have := HN.out
            subst this
            omega, by omega, by omega⟩)
          go_wp2
          go_ret
          exact ⟨⟨V, HF.out, rfl⟩, rfl⟩
      · obtain rfl : j = d := by omega
        have HF := Lib.hid (show Told (ch n k) W from .inl (by have h2 := HM.out; have h3 := HN.out; subst h3; rw [← h2, ← HW.out]; exact ⟨hW, rfl⟩))
        have t0 : decide ((j : Int) + 1 ≤ (j : Int)) = false := by simp; omega
        go_wp2
        go_ret
        exact ⟨⟨W, HF.out, rfl⟩, rfl⟩

set_option maxRecDepth 100000 in
set_option maxHeartbeats 2000000 in
theorem rways_any (l : List Nat) (a : Option Addr) (ct N : Nat) (w : World) (hl : l.length ≤ 1000) (hs : l.sum ≤ 64) (hI : Ints N w a (zs l)) :
    Calls Try.prog 29 #[.slice a l.length ct] w fun e w' => (∃ v : Nat, Told (ways l) v ∧ e = .returned (.int .i64 (v : Int))) ∧ w' = w := by
  go_enter Try.func29, Try.ntmps29
  go_wp2
  go_loopw [3, 4, 5] (fun v s i wr => ∃ (k W S : Nat), k ≤ l.length ∧ i = .int .i64 k ∧ v = .int .i64 W ∧ s = .int .i64 S ∧ Hid (W = ways (l.take k)) ∧ Hid (S = (l.take k).sum) ∧ 1 ≤ W ∧ W ≤ 1099511627776 ∧ S ≤ 64 ∧ wr = w) (fun _ _ i _ => l.length - (intOf i).toNat)
  case atStart => exact ⟨0, 1, 0, Nat.zero_le _, rfl, rfl, rfl, Lib.hid (by simp [ways, waysF]), Lib.hid (by simp), by omega, by omega, by omega, rfl⟩
  case round =>
    obtain ⟨k, W, S, hk, rfl, rfl, rfl, HW, HS, hW0, hW, hS, rfl⟩ := hrel
    by_cases hlt : k < l.length
    · obtain ⟨b, off, rfl, hc⟩ := hI.zat hlt
      have HT := Lib.hid (ways_take hlt)
      have HTL := Lib.hid (ways_take_le l (k + 1))
      have hxs : S + l.getD k 0 ≤ 64 := by have := sum_take_le l (k + 1); rw [sum_take, ← HS.out] at this; omega
      have HS2 := Lib.hid (show S + l.getD k 0 = (l.take (k + 1)).sum by rw [sum_take, HS.out])
      rw [← HW.out, ← HS.out] at HT
      have HC := Lib.hid (choose_any (S + l.getD k 0) (l.getD k 0) wr (by omega) hxs)
      generalize l.getD k 0 = x at *
      generalize ch (S + x) x = C at *
      clear hI HW HS
      have hdv : 1099511627776 / W ≤ 1099511627776 := Nat.div_le_self _ _
      have e3 : (1099511627776 : Int) / (W : Int) = ((1099511627776 / W : Nat) : Int) := (Int.natCast_ediv _ _).symm
      have HQ := Lib.hid e3
      have HLE := Lib.hid (fun (c : Nat) => Nat.le_div_iff_mul_le (k := W) (x := c) (y := 1099511627776) (by omega))
      clear e3
      generalize 1099511627776 / W = D at *
      go_upto_region 7 with (go_at_call 42; refine HC.out.mono ?_; rintro e w' ⟨⟨c, hc', rfl⟩, rfl⟩)
      by_cases h : c ≤ D
      · have t1 : decide ((1099511627776 : Int) / (W : Int) < (c : Int)) = false := by rw [HQ.out]; simp; omega
        have hcC := (hc'.le (by omega)).1
        subst hcC
        have hm := (HLE.out c).1 h
        rw [Nat.mul_comm] at hm
        have e4 : (W : Int) * (c : Int) = ((W * c : Nat) : Int) := by push_cast; rfl
        have HE4 := Lib.hid e4
        have hm2 : (W : Int) * (c : Int) ≤ 1099511627776 := by rw [e4]; omega
        have hm3 : 0 ≤ (W : Int) * (c : Int) := by rw [e4]; omega
        have hpos : 1 ≤ W * c := by rw [← HT.out]; exact ways_pos _
        have HT2 := Lib.hid (show W * c = ways (l.take (k + 1)) from HT.out.symm)
        clear e4 h hc'
        go_wp2
        go_roundw
        case rel => exact ⟨k + 1, W * c, S + x, by omega, by go_num, by rw [HE4.out], by go_num, HT2, HS2, hpos, hm, hxs, trivial⟩
        case measure => simp [intOf]; omega
      · have t1 : decide ((1099511627776 : Int) / (W : Int) < (c : Int)) = true := by rw [HQ.out]; simp; omega
        have hb : 1099511627776 < c * W := by
          have := mt (HLE.out c).2 h
          omega
        have hbig : 1099511627776 < W * C := by
          rcases hc' with ⟨_, rfl⟩ | ⟨h1, _, _⟩
          · rw [Nat.mul_comm]; exact hb
          · have := Nat.mul_le_mul hW0 (Nat.le_of_lt h1)
            rcases Nat.lt_or_ge 1099511627776 (W * C) with h2 | h2
            · exact h2
            · have h3 : C ≤ W * C := Nat.le_mul_of_pos_left _ hW0
              omega
        have HF := Lib.hid (show Told (ways l) 1099511627777 from .inr ⟨by have := HTL.out; rw [HT.out] at this; omega, by omega, by omega⟩)
        clear h hc' hb
        go_wp2
        go_ret
        exact ⟨⟨1099511627777, HF.out, rfl⟩, rfl⟩
    · obtain rfl : k = l.length := by omega
      have HF := Lib.hid (show Told (ways l) W from .inl ⟨by rw [← List.take_length (l := l), ← HW.out]; exact hW, by rw [HW.out, List.take_length]⟩)
      clear hI
      go_wp2
      go_ret
      exact ⟨⟨W, HF.out, rfl⟩, rfl⟩
end Go.Proofs.Ytepbmgbomdekaaa
