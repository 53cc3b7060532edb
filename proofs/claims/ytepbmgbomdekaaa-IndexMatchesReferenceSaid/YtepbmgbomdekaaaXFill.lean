/-
  filling, whole.
-/
import Derived.Test.YtepbmgbomdekaaaXFil
import Derived.Laws.EntriesVeiled
namespace Go.Proofs.Ytepbmgbomdekaaa
open Go Go.RowKit

theorem take_at (l : List Nat) (k j : Nat) : (l.take k).getD j 0 = if j < k then l.getD j 0 else 0 := by
  simp only [List.getD_eq_getElem?_getD, List.getElem?_take]
  split
  · rfl
  · rfl
theorem lefts_take (l : List Nat) (k : Nat) (hk : k < 13) : (lefts (l.take k)).setIfInBounds k (.int .i64 ((l.getD k 0 : Nat) : Int)) = lefts (l.take (k + 1)) := by
  apply Array.ext_getElem?
  intro i
  rcases Nat.lt_or_ge i 13 with hi | hi
  · rw [lefts_at _ _ hi, Array.getElem?_setIfInBounds]
    by_cases e : k = i
    · subst e
      have : k < (lefts (l.take k)).size := by simp [lefts, zs, pad]; exact hk
      rw [if_pos rfl, if_pos this, take_at, if_pos (by omega)]
    · rw [if_neg e, lefts_at _ _ hi, take_at, take_at]
      by_cases h : i < k
      · rw [if_pos h, if_pos (by omega)]
      · rw [if_neg h, if_neg (by omega)]
  · rw [Array.getElem?_eq_none (by simp [lefts, zs, pad]; omega), Array.getElem?_eq_none (by simp [lefts, zs, pad]; omega)]
theorem lefts_pad (l : List Nat) : lefts (pad l) = lefts l := by
  apply Array.ext_getElem?
  intro i
  rcases Nat.lt_or_ge i 13 with hi | hi
  · rw [lefts_at _ _ hi, lefts_at _ _ hi, pad_at, if_pos hi]
  · rw [Array.getElem?_eq_none (by simp [lefts, zs, pad]; omega), Array.getElem?_eq_none (by simp [lefts, zs, pad]; omega)]

set_option maxRecDepth 100000 in
set_option maxHeartbeats 1000000 in
theorem filling_any (l : List Nat) (a : Option Addr) (ct N : Nat) (w : World) (hl : l.length ≤ 13) (hs : l.sum ≤ 64) (hw : ways l ≤ 1099511627776) (hN : N ≤ w.heap.size) (hI : Ints N w a (zs l)) :
    Calls Try.prog 37 #[.slice a l.length ct] w fun e w' => e = .returned (.tuple #[waysV w.heap.size, putV w.heap.size]) ∧ FB w' w.heap.size (pad l) ∧ Below w.heap.size w w' := by
  go_enter Try.func37, Try.ntmps37
  go_upto_region 3 with (fail)
  rw [show w.heap.size + 1 + 1 = w.heap.size + 2 from rfl]
  obtain ⟨w0, ew0⟩ : ∃ w0, w0 = (((w.alloc (.cells #[.nilFunc] 72)).alloc (.cells #[.int .i64 0, .int .i64 0, .int .i64 0, .int .i64 0, .int .i64 0, .int .i64 0, .int .i64 0, .int .i64 0, .int .i64 0, .int .i64 0, .int .i64 0, .int .i64 0, .int .i64 0] 89)).alloc (.cells #[.int .i64 0] 3)) := ⟨_, rfl⟩
  have hb0 : Below w.heap.size w w0 := by rw [ew0]; exact below_alloc (below_alloc (below_alloc (Below.refl _ _) _) _) _
  have hV0 : w0.heap[w.heap.size]? = some (.cells #[.nilFunc] 72 (0, 0)) := by
    rw [ew0, hp_old _ _ _ (by simp; omega), hp_old _ _ _ (by simp)]; exact World.alloc_heap_new _ _
  have hL0 : w0.heap[w.heap.size + 1]? = some (.cells (lefts (l.take 0)) 89 (0, 0)) := by
    rw [ew0, hp_old _ _ _ (by simp), show lefts (l.take 0) = #[.int .i64 0, .int .i64 0, .int .i64 0, .int .i64 0, .int .i64 0, .int .i64 0, .int .i64 0, .int .i64 0, .int .i64 0, .int .i64 0, .int .i64 0, .int .i64 0, .int .i64 0] from rfl]
    have := World.alloc_heap_new (w.alloc (.cells #[.nilFunc] 72)) (.cells #[.int .i64 0, .int .i64 0, .int .i64 0, .int .i64 0, .int .i64 0, .int .i64 0, .int .i64 0, .int .i64 0, .int .i64 0, .int .i64 0, .int .i64 0, .int .i64 0, .int .i64 0] 89)
    simpa using this
  have hC0 : w0.heap[w.heap.size + 2]? = some (.cells #[.int .i64 (((l.take 0).sum : Nat) : Int)] 3 (0, 0)) := by
    rw [ew0]
    have := World.alloc_heap_new ((w.alloc (.cells #[.nilFunc] 72)).alloc (.cells #[.int .i64 0, .int .i64 0, .int .i64 0, .int .i64 0, .int .i64 0, .int .i64 0, .int .i64 0, .int .i64 0, .int .i64 0, .int .i64 0, .int .i64 0, .int .i64 0, .int .i64 0] 89)) (.cells #[.int .i64 0] 3)
    simpa using this
  have hS0 : w0.heap.size = w.heap.size + 3 := by rw [ew0]; simp
  rw [← ew0]
  clear ew0
  obtain ⟨h, eh⟩ : ∃ h, h = w.heap.size := ⟨_, rfl⟩
  simp only [← eh] at hN hb0 hV0 hL0 hC0 hS0 ⊢
  have hI0 : Ints N w0 a (zs l) := hI.below (hb0.mono hN)
  have EH := Lib.hid eh
  clear eh hI
  have HS0 := Lib.hid hS0
  go_wp2
  go_loopw [11] (fun i wr => ∃ k : Nat, k ≤ l.length ∧ i = .int .i64 k ∧ wr.heap[h]? = some (.cells #[.nilFunc] 72 (0, 0)) ∧ wr.heap[h + 1]? = some (.cells (lefts (l.take k)) 89 (0, 0)) ∧ wr.heap[h + 2]? = some (.cells #[.int .i64 (((l.take k).sum : Nat) : Int)] 3 (0, 0)) ∧ Hid (wr.heap.size = h + 3) ∧ Below h w0 wr) (fun i _ => l.length - (intOf i).toNat)
  case atStart => exact ⟨0, Nat.zero_le _, rfl, hV0, hL0, hC0, HS0, Below.refl _ _⟩
  case round =>
    clear hV0 hL0 hC0 hS0
    obtain ⟨k, hk, rfl, hV, hL, hC, HS, hB⟩ := hrel
    by_cases hlt : k < l.length
    · obtain ⟨b, off, rfl, hc0⟩ := hI0.zat hlt
      have hbN : b < h := by
        rcases hI0 with e | ⟨b2, off2, e, hn, _⟩
        · have := congrArg List.length e; rw [zs_len] at this; simp only [List.length_nil] at this; omega
        · cases e; omega
      have hc : wr.cell? ⟨b, off + k, none⟩ = some (.int .i64 ((l.getD k 0 : Nat) : Int)) := (hB.cell (p := ⟨b, off + k, none⟩) hbN).trans hc0
      have hk13 : (k : Int) < 13 := by omega
      have HLN := Lib.hid (lefts_take l k (by omega))
      have HSN := Lib.hid (sum_take l k)
      have hsum := sum_take_le l (k + 1)
      rw [sum_take] at hsum
      have hL' := Lib.hid hL
      have hC' := Lib.hid hC
      have c1 : ∃ v, wr.cell? ⟨h + 1, k, none⟩ = some v := ⟨_, bx_cell hL k (lefts_at _ _ (by omega))⟩
      have c2 : wr.cell? ⟨h + 2, 0, none⟩ = some (.int .i64 (((l.take k).sum : Nat) : Int)) := bx_cell hC 0 rfl
      have f1 := bx_frozen hL k
      have f2 := bx_frozen hC 0
      obtain ⟨v1, c1⟩ := c1
      have l1 := bx_lt hL
      have l2 := bx_lt hC
      have HV := Lib.hid hV
      have HB := Lib.hid hB
      generalize l.getD k 0 = x at *
      generalize hSS : (l.take k).sum = S at *
      clear hL hC hV hB hc0 hI0
      go_wp2
      go_roundw
      case rel => 
        refine ⟨k + 1, by omega, by go_num, ?_, ?_, ?_, ?_, ?_⟩
        · rw [hp_far _ _ _ _ _ (by omega), hp_far _ _ _ _ _ (by omega)]; exact HV.out
        · rw [hp_far _ _ _ _ _ (by omega), ← HLN.out]; exact bx_set hL'.out k _
        · rw [HSN.out, Int.natCast_add]
          refine (bx_set (cs := #[.int .i64 (S : Int)]) (t := 3) ?_ 0 _).trans rfl
          rw [hp_far _ _ _ _ _ (by omega)]; exact hC'.out
        · exact Lib.hid (by simp [World.setCell]; exact HS.out)
        · exact (HB.out.trans ((alters_cell wr (h + 1) k (.int .i64 (x : Int))).below (by have := HS.out; omega) (fun z hz => by have : z = h + 1 := hz; omega))).trans ((alters_cell _ (h + 2) 0 _).below (by simp [World.setCell]; have := HS.out; omega) (fun z hz => by have : z = h + 2 := hz; omega))
      case measure => simp [intOf]; omega
    · obtain rfl : k = l.length := by omega
      rw [List.take_length] at hL hC
      have hIp : Ints wr.heap.size wr (some ⟨h + 1, 0, none⟩) (zs (pad l)) := .inr ⟨h + 1, 0, rfl, bx_lt hL, fun j hj => by
        rw [Nat.zero_add]
        rw [zs_len, pad_len] at hj
        rw [zs_get, pad_at, if_pos hj]
        exact bx_cell hL j (lefts_at l j hj)⟩
      have HA := Lib.hid (arr_any (pad l) (some ⟨h + 1, 0, none⟩) 13 _ wr (by rw [pad_len]; omega) (by rw [sum_pad hl]; exact hs) hIp)
      rw [pad_len, ways_pad hl] at HA
      have l1 := bx_lt hL
      have l2 := bx_lt hC
      have l0 := bx_lt hV
      clear hIp hI0
      go_upto_region 10 with (go_at_call 34; refine HA.out.mono ?_; rintro e w' ⟨⟨v, hv, rfl⟩, rfl⟩)
      obtain rfl : v = ways l := by
        rcases hv with h | h
        · exact h.2
        · omega
      have hV1 : (w'.alloc (.cells #[.int .i64 (ways l : Nat)] 3)).heap[h]? = some (.cells #[.nilFunc] 72 (0, 0)) := (hp_old _ _ _ l0).trans hV
      have hL1 : (w'.alloc (.cells #[.int .i64 (ways l : Nat)] 3)).heap[h + 1]? = some (.cells (lefts l) 89 (0, 0)) := (hp_old _ _ _ l1).trans hL
      have hC1 : (w'.alloc (.cells #[.int .i64 (ways l : Nat)] 3)).heap[h + 2]? = some (.cells #[.int .i64 (l.sum : Nat)] 3 (0, 0)) := (hp_old _ _ _ l2).trans hC
      have hA1 : (w'.alloc (.cells #[.int .i64 (ways l : Nat)] 3)).heap[h + 3]? = some (.cells #[.int .i64 (ways l : Nat)] 3 (0, 0)) := by rw [← HS.out]; exact World.alloc_heap_new _ _
      have hB1 : Below h w0 (w'.alloc (.cells #[.int .i64 (ways l : Nat)] 3)) := hB.alloc (by omega) _
      have hS1 : h + 4 ≤ (w'.alloc (.cells #[.int .i64 (ways l : Nat)] 3)).heap.size := by have := bx_lt hA1; omega
      rw [HS.out]
      clear hV hL hC hB HS l0 l1 l2 HA hv
      generalize w'.alloc (.cells #[.int .i64 (ways l : Nat)] 3) = w1 at *
      have c0 : w1.cell? ⟨h, 0, none⟩ = some .nilFunc := bx_cell hV1 0 rfl
      have f0 := bx_frozen hV1 0
      have l0 := bx_lt hV1
      have HX := Lib.hid (And.intro hV1 (And.intro hL1 (And.intro hC1 (And.intro hA1 hB1))))
      clear hV1 hL1 hC1 hA1 hB1
      go_wp2
      have HG := Lib.hid (show FB ((w1.setCell ⟨h, 0, none⟩ (waysV h)).setCell ⟨h, 0, none⟩ (waysV h)) h (pad l) ∧ Below h w0 ((w1.setCell ⟨h, 0, none⟩ (waysV h)).setCell ⟨h, 0, none⟩ (waysV h)) from by
        obtain ⟨v1, v2, v3, v4, v5⟩ := HX.out
        refine ⟨⟨?_, ?_, ?_, ?_⟩, ?_⟩
        · exact (bx_set (bx_set v1 0 (waysV h)) 0 (waysV h)).trans rfl
        · rw [hp_far _ _ _ _ _ (by omega), hp_far _ _ _ _ _ (by omega), lefts_pad]; exact v2
        · rw [hp_far _ _ _ _ _ (by omega), hp_far _ _ _ _ _ (by omega), sum_pad hl]; exact v3
        · rw [hp_far _ _ _ _ _ (by omega), hp_far _ _ _ _ _ (by omega), ways_pad hl]; exact v4
        · exact (v5.trans ((alters_cell w1 h 0 (waysV h)).below (by omega) (fun z hz => Nat.le_of_eq (Eq.symm hz)))).trans ((alters_cell _ h 0 (waysV h)).below (by simp [World.setCell]; omega) (fun z hz => Nat.le_of_eq (Eq.symm hz))))
      unfold waysV at HG
      generalize (w1.setCell ⟨h, 0, none⟩ (.func (.func 48) #[] #[.pointer (some ⟨h + 3, 0, none⟩), .pointer (some ⟨h + 1, 0, none⟩), .pointer (some ⟨h + 2, 0, none⟩)])).setCell ⟨h, 0, none⟩ (.func (.func 48) #[] #[.pointer (some ⟨h + 3, 0, none⟩), .pointer (some ⟨h + 1, 0, none⟩), .pointer (some ⟨h + 2, 0, none⟩)]) = w2 at *
      have k0 : w2.cell? ⟨h, 0, none⟩ = some (.func (.func 48) #[] #[.pointer (some ⟨h + 3, 0, none⟩), .pointer (some ⟨h + 1, 0, none⟩), .pointer (some ⟨h + 2, 0, none⟩)]) := bx_cell HG.out.1.v 0 rfl
      (try simp only [Exit.inBlock, Exit.then])
      refine bodyPost_ret (results_ct rfl _ _ _ ⟨h, 0, none⟩ _ rfl (by go_simp; rfl)) rfl ?_
      have eh := EH.out
      rw [← eh]
      exact ⟨rfl, HG.out.1, hb0.trans HG.out.2⟩
end Go.Proofs.Ytepbmgbomdekaaa
