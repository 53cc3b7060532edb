/-
  Parts of the package board, walked.
-/
import Derived.Test.YtcpjkilnbhfpjaaDoorParts
namespace Go.Proofs.YtcpjkilnbhfpjaaDoor
open Go Go.RowKit Go.Shelf

attribute [local go_sem] Oper.semAt_some

set_option maxRecDepth 100000 in
set_option maxHeartbeats 2000000 in
theorem parts_in (B : Brd) (hv : validS B = true) (an at_ : Option Addr) (cn ct : Nat) (N : Nat) (w : World) (hN : N ≤ w.heap.size) (hH : Held N w an at_ B) :
    CallsIn Fence.wide 4 Tryd.prog 25 #[B.val an cn at_ ct] w fun e W' => ∃ v, e = .returned v ∧ OwnInts w.heap.size W' v (partsS B) ∧ Below w.heap.size w W' := by
  obtain ⟨hB, hrow, hturn⟩ := ok_of_valid hv
  have hlo := hB.lo
  have hhi := hB.hi
  have hdirs := hB.dirs
  obtain ⟨n, hn⟩ := Int.eq_ofNat_of_zero_le (show 0 ≤ B.cells by omega)
  have hpS : partsS B = partsTo B n n := by unfold partsS; rw [hn]; rfl
  have HP := Lib.hid hpS
  have hn1 : 1 ≤ n := by omega
  have hn64 : n ≤ 64 := by omega
  have hok := joinTo_ok hB hn n (Nat.le_refl _)
  have hin : ∀ r ∈ joinTo B n n, r.length ≤ 1024 ∧ ∀ x ∈ r, 0 ≤ x ∧ x < (n : Int) := fun r hr => ⟨by have := (hok.row r hr).1; omega, (hok.row r hr).2⟩
  have f1 : Fence.wide.fn 28 := trivial
  have f2 : Fence.wide.fn 46 := trivial
  have f3 : Fence.wide.fn 47 := trivial
  have f4 : Fence.wide.fn 43 := trivial
  have HN := Lib.hid hn
  clear hn hpS
  refine callsIn_of_wp Tryd.func25 rfl trivial ?_ rfl
  simp only [Tryd.ntmps25, List.size_toArray, List.length_cons, List.length_nil, Nat.reduceAdd, Nat.reduceSub, Array.replicate_succ, Array.replicate_zero, List.push_toArray, List.append_toArray, List.nil_append, List.cons_append]
  gi_wp2_with fail
  refine (callsIn_wide.2 (valid_any B an at_ cn ct N _ (by simp; omega) (hH.up hN (by (repeat (first | exact Below.refl _ _ | assumption | refine below_alloc ?_ _ | refine Below.drew ?_ | refine below_drewN_ ?_ _ | refine below_step ?_ (by assumption))))) hrow hturn)).mono ?_
  rintro e w1 ⟨rfl, hb1⟩
  rw [hv]
  have hbw1 : Below w.heap.size w w1 := below_step (below_alloc (Below.refl _ _) _) hb1
  have hs1 := hb1.size
  rw [World.size_alloc] at hs1
  have k0 : w1.cell? ⟨w.heap.size, 0, none⟩ = some (.int .i64 B.cells) := cell_keep hb1 (cell_new_at _ _ _ _ _ _ rfl rfl)
  have k1 : w1.cell? ⟨w.heap.size, 1, none⟩ = some (.slice an B.next.length cn) := cell_keep hb1 (cell_new_at _ _ _ _ _ _ rfl rfl)
  have k2 : w1.cell? ⟨w.heap.size, 2, none⟩ = some (.slice at_ B.turn.length ct) := cell_keep hb1 (cell_new_at _ _ _ _ _ _ rfl rfl)
  clear hb1
  have hlt : w.heap.size < w1.heap.size := by omega
  gi_wp2_with fail
  have hrep := repeat_one n (-1) w1.heap.size (w1.alloc (.cells #[.int .i64 (-1)] 3)) hn1 hn64 (cell_new_at _ _ _ _ _ _ rfl rfl)
  rw [← HN.out] at hrep
  refine (callsIn_wide.2 hrep).mono ?_
  clear hrep
  rintro e w2 ⟨v2, rfl, hown2, hb2⟩
  rcases hown2.form with ⟨rfl, h0⟩ | ⟨G, cap, rfl, hG1, hG2⟩
  · simp at h0; omega
  have hb12 : Below w1.heap.size w1 w2 := below_step (below_alloc (Below.refl _ _) _) hb2
  have hs2 := hb2.size
  rw [World.size_alloc] at hG1 hs2
  have hbw2 := below_step hbw1 hb12
  have k0 := cell_keep hb12 k0
  have k1 := cell_keep hb12 k1
  have k2 := cell_keep hb12 k2
  have hlt2 : w.heap.size < w2.heap.size := by omega
  simp only [List.length_replicate] at hown2 ⊢
  have hown2' : OwnInts w.heap.size w2 (.slice (some ⟨G, 0, none⟩) n cap) (List.replicate n (-1)) := OwnInts.mono hown2 (by rw [World.size_alloc]; omega)
  clear hb2 hown2
  gi_wp2_with fail
  refine (callsIn_wide.2 (callsIn_wide.1 (joined_any B hB n HN.out an at_ cn ct N w2 (by omega) (hH.up hN hbw2)))).mono ?_
  rintro e w3 ⟨B3, G3, Gd, vs, rfl, hbx3, hrows, hb3, hB3, hG3⟩
  have hOn := joined1_onward n w2.heap.size B3 G3 n 1024 Gd _ vs w3 (by omega) hbx3 hrows hin
  have hbw3 := below_step hbw2 hb3
  have hs3 := hb3.size
  have hPlt : ∀ k, (k = B3 ∨ k = G3 ∨ ∃ v ∈ vs, some k = v.ownBlock) → w2.heap.size ≤ k ∧ k < w3.heap.size := by
    rintro k (rfl | rfl | ⟨v, hvm, hk⟩)
    · exact ⟨hB3, (Array.getElem?_eq_some_iff.1 hbx3).1⟩
    · exact ⟨hG3, (Array.getElem?_eq_some_iff.1 hrows.heap).1⟩
    · obtain ⟨i, hi⟩ := List.getElem?_of_mem hvm
      exact World.ownsRow.lt (hrows.own i v hi) k hk.symm
  generalize hPP : (fun k => k = B3 ∨ k = G3 ∨ ∃ v ∈ vs, some k = v.ownBlock) = PP at hOn
  have hPlt' : ∀ k, PP k → w2.heap.size ≤ k ∧ k < w3.heap.size := by rw [← hPP]; exact hPlt
  clear hPP hPlt hbx3 hrows
  have k0 := cell_keep hb3 k0
  have k1 := cell_keep hb3 k1
  have k2 := cell_keep hb3 k2
  have hlt3 : w.heap.size < w3.heap.size := by omega
  have hown3 : OwnInts w.heap.size w3 (.slice (some ⟨G, 0, none⟩) n cap) (List.replicate n (-1)) := hown2'.alters (S := fun _ => False) (Alters.of_below hb3) (fun k hk => hk.elim)
  clear hown2'
  gi_wp2
  gi_loopw [19] (fun i wr => ∃ c : Nat, c ≤ n ∧ i = .int .i64 c ∧ OwnInts w.heap.size wr (.slice (some ⟨G, 0, none⟩) n cap) (partsTo B n c) ∧ Keep (fun k => k = w.heap.size ∨ PP k) w3 wr ∧ Below w.heap.size w wr ∧ w3.heap.size ≤ wr.heap.size)
    (fun i _ => n - (intOf i).toNat)
  case atStart => exact ⟨0, Nat.zero_le _, rfl, hown3, Keep.refl _ _, hbw3, Nat.le_refl _⟩
  case round =>
    obtain ⟨c, hc, rfl, hown, hkp, hbw, hsw⟩ := hrel
    by_cases hlt : c < n
    · have e0 := (hkp.cell (p := ⟨w.heap.size, 0, none⟩) (.inl rfl)).trans k0
      have hpl := partsTo_len B n c
      obtain ⟨hcc, _⟩ := hown.cellAt (j := c) (by omega)
      generalize hx : (partsTo B n c)[c]?.getD 0 = x at hcc
      by_cases h0 : 0 ≤ x
      · have hnext : partsTo B n (c + 1) = partsTo B n c := by rw [partsTo, if_pos (by rw [hx]; exact h0)]
        have HX := Lib.hid hnext
        clear hnext hx
        gi_wp2
        go_roundw
        case rel => exact ⟨c + 1, by omega, by simp, by rw [HX.out]; exact hown, hkp, hbw, hsw⟩
        case measure => simp [intOf]; omega
      · have hd : decide (0 ≤ x) = false := by simpa using h0
        have hnext : partsTo B n (c + 1) = markTo c (distS (adjS B n) n c) (partsTo B n c) n := by rw [partsTo, if_neg (by rw [hx]; exact h0)]
        have HX := Lib.hid hnext
        clear hnext hx
        have hOnW := hOn.later (hkp.mono (fun k hk => .inr hk))
        have hdist := callsIn_wide.1 (dist_any n hn1 hn64 c hlt 59 #[.pointer (some ⟨B3, 0, none⟩)] (enters_of Tryd.func59 (by kernel_rfl) rfl) (adjS B n) PP 1024 wr (fun k hk => by have := (hPlt' k hk).2; omega)
          (fun c' x h0 h1 hx => (hok.at_ c'.toNat).2 x hx) hOnW)
        rw [← HN.out] at hdist
        gi_wp2_with fail
        refine (callsIn_wide.2 hdist).mono ?_
        clear hdist
        rintro e w4 ⟨v4, rfl, hown4, hb4⟩
        have hd4 : (distS (adjS B n) n c).length = n := dist_len _ _ _
        rcases hown4.form with ⟨rfl, h0⟩ | ⟨G4, cap4, rfl, hG41, hG42⟩
        · rw [h0] at hd4; simp at hd4; omega
        generalize distS (adjS B n) n c = dist at hown4 hd4 HX ⊢
        have hs4 := hb4.size
        have hbw4 := below_step hbw hb4
        have hownP : OwnInts w.heap.size w4 (.slice (some ⟨G, 0, none⟩) n cap) (partsTo B n c) := hown.alters (S := fun _ => False) (Alters.of_below hb4) (fun k hk => hk.elim)
        rw [hd4] at hown4 ⊢
        have hlG : G < wr.heap.size := by omega
        have hkp4 := hkp.trans (Below.keep hb4 (P := fun k => k = w.heap.size ∨ PP k) (fun k hk => by
          rcases hk with rfl | hk
          · omega
          · have := (hPlt' k hk).2; omega))
        have hG4G : ¬ G4 = G := by omega
        have hGw : w.heap.size ≤ G := by omega
        gi_wp2
        gi_loopw [33] (fun i wr' => ∃ t : Nat, t ≤ n ∧ i = .int .i64 t ∧ OwnInts w.heap.size wr' (.slice (some ⟨G, 0, none⟩) n cap) (markTo c dist (partsTo B n c) t) ∧ Alters (fun k => k = G) w4 wr')
          (fun i _ => n - (intOf i).toNat)
        case atStart => exact ⟨0, Nat.zero_le _, rfl, hownP, Alters.refl _ _⟩
        case round =>
          obtain ⟨t, ht, rfl, hownt, halt⟩ := hrel
          by_cases htn : t < n
          · have hml : (markTo c dist (partsTo B n c) t).length = n := by rw [markTo_len, hpl]
            obtain ⟨hct, hft⟩ := hownt.cellAt (j := t) (by omega)
            obtain ⟨hdt, _⟩ := (hown4.alters halt (fun k hk => by rw [hk]; simp [Value.ownBlock]; omega)).cellAt (j := t) (by omega)
            generalize hy : dist[t]?.getD 0 = y at hdt
            by_cases hy0 : 0 ≤ y
            · have hm : markTo c dist (partsTo B n c) (t + 1) = (markTo c dist (partsTo B n c) t).set t (c : Int) := by rw [markTo, if_pos (by rw [hy]; exact hy0)]
              have HM := Lib.hid hm
              have HL := Lib.hid hml
              clear hm hy hml
              gi_wp2
              go_roundw
              case rel => exact ⟨t + 1, by omega, by simp, by rw [HM.out]; exact hownt.set t c, halt.trans ⟨rfl, rfl, rfl, by simp [World.setCell], fun k _ hk => Below.heap_setCell _ _ _ _ hk⟩⟩
              case measure => simp [intOf]; omega
            · have hy' : decide (0 ≤ y) = false := by simpa using hy0
              have hm : markTo c dist (partsTo B n c) (t + 1) = markTo c dist (partsTo B n c) t := by rw [markTo, if_neg (by rw [hy]; exact hy0)]
              have HM := Lib.hid hm
              have HL := Lib.hid hml
              clear hm hy hml
              gi_wp2
              go_roundw
              case rel => exact ⟨t + 1, by omega, by simp, by rw [HM.out]; exact hownt, halt⟩
              case measure => simp [intOf]; omega
          · obtain rfl : t = n := by omega
            gi_wp2
            go_roundw
            case rel => exact ⟨c + 1, by omega, by simp, by rw [HX.out]; exact hownt, hkp4.trans (halt.keep (fun k hk => by
              rcases hk with rfl | hk
              · exact ⟨by omega, by omega⟩
              · have := hPlt' k hk; exact ⟨by omega, by omega⟩)), hbw4.trans (halt.below (by omega) (fun k hk => by omega)), by have := halt.size; omega⟩
            case measure => simp [intOf]; omega
    · obtain rfl : c = n := by omega
      gi_wp2
      go_ret
      exact ⟨_, rfl, by rw [HP.out]; exact hown, hbw⟩
end Go.Proofs.YtcpjkilnbhfpjaaDoor
