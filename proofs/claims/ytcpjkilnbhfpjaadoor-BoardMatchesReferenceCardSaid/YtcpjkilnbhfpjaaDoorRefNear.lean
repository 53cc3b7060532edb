/-
  step and Near of the reference.
-/
import Derived.Test.YtcpjkilnbhfpjaaDoorLawA
import Derived.Test.YtcpjkilnbhfpjaaDoorWithoutP
namespace Go.Proofs.YtcpjkilnbhfpjaaDoor
open Go Go.RowKit Go.Shelf

theorem step_no {B : Brd} {a c : Int} (h : ∀ j : Nat, j < B.next.length → ¬ nextS B j a = c) : stepB B a c = false := by
  unfold stepB
  rw [List.any_eq_false]
  intro d hd
  simpa using h d (List.mem_range.1 hd)
theorem step_yes {B : Brd} {a c : Int} {d : Nat} (hd : d < B.next.length) (h : nextS B d a = c) : stepB B a c = true := by
  unfold stepB
  rw [List.any_eq_true]
  exact ⟨d, List.mem_range.2 hd, by simpa using h⟩

theorem to_next2 {B : Brd} (hB : B.Ok) {d : Nat} (hd : d < B.next.length) (c : Int) : toS B 0 d c = nextS B d c := toS_next hB hd c

set_option maxRecDepth 100000 in
set_option maxHeartbeats 2000000 in
theorem step_any (B : Brd) (hB : B.Ok) (an at_ : Option Addr) (cn ct : Nat) (a c : Int) (w : World) (hH : Held w.heap.size w an at_ B) :
    Calls Tryd.prog 40 #[B.val an cn at_ ct, .int .i64 a, .int .i64 c] w fun e w' => e = .returned (.bool (stepB B a c)) ∧ Below w.heap.size w w' := by
  have hdirs := hB.dirs
  have y0 := InBox.new cn ct hH
  have hbw0 : Below w.heap.size w (w.alloc (.cells #[.int .i64 B.cells, .slice an B.next.length cn, .slice at_ B.turn.length ct] 31)) := below_alloc (Below.refl _ _) _
  clear hH
  go_enter Tryd.func40, Tryd.ntmps40
  go_wp2_with fail
  generalize w.alloc (.cells #[.int .i64 B.cells, .slice an B.next.length cn, .slice at_ B.turn.length ct] 31) = w1 at *
  generalize hb1 : w.heap.size = b1 at y0 ⊢
  have HB1 := Lib.hid hb1
  clear hb1
  go_loopw [7] (fun i wr => ∃ d : Nat, d ≤ B.next.length ∧ i = .int .i64 d ∧ (∀ j : Nat, j < d → ¬ nextS B j a = c) ∧ InBox wr b1 an at_ cn ct B ∧ Below b1 w wr)
    (fun i _ => B.next.length - (intOf i).toNat)
  case atStart => exact ⟨0, Nat.zero_le _, rfl, fun j hj => absurd hj (Nat.not_lt_zero _), y0, by rw [← HB1.out]; exact hbw0⟩
  case round =>
    clear y0 hbw0
    obtain ⟨d, hd, rfl, hall, y1, hbw⟩ := hrel
    obtain ⟨c0, c1, c2, hH⟩ := id y1
    have HA := Lib.hid hall
    clear hall
    by_cases hlt : d < B.next.length
    · have hto := to_next2 hB hlt a
      go_wp2_with fail
      refine (refTo_any B hB an at_ cn ct 0 d a _ wr (Nat.le_refl _) hH).mono ?_
      rintro e w4 ⟨rfl, hb4⟩
      rw [hto]
      have y4 := y1.up hb4
      have hbw4 : Below b1 w w4 := hbw.trans (hb4.mono (by rw [← HB1.out]; have := hbw.size; have := HB1.out; omega))
      clear c0 c1 c2 hH hb4 hto
      have hst := fun h => step_yes (B := B) (a := a) (c := c) hlt h
      generalize hx : nextS B d a = x at hst ⊢
      have HX := Lib.hid hx
      clear hx
      by_cases h : x = c
      · have t1 : (x == c) = true := by simpa using h
        have t2 : decide (x = c) = true := by simpa using h
        have HO := Lib.hid (hst h)
        clear hst h
        go_wp2
        go_ret
        exact ⟨by rw [HO.out]; rfl, by rw [HB1.out]; exact hbw4⟩
      · have t1 : (x == c) = false := by simpa using h
        have t2 : decide (x = c) = false := by simpa using h
        have HH := Lib.hid h
        clear hst h
        go_wp2
        go_roundw
        case rel => exact ⟨d + 1, by omega, by simp, fun j hj => by
          by_cases e : j = d
          · rw [e, HX.out]; exact HH.out
          · exact HA.out j (by omega), y4, hbw4⟩
        case measure => simp [intOf]; omega
    · have HO := Lib.hid (step_no (B := B) (a := a) (c := c) (fun j hj => HA.out j (by omega)))
      go_wp2
      go_ret
      exact ⟨by rw [HO.out]; rfl, by rw [HB1.out]; exact hbw⟩

/-- The first k numbers that Near has. -/
theorem nearL_succ (B : Brd) (c : Int) (k : Nat) : nearL B c (k + 1) = nearL B c k ++ (if ((k : Int) != c && stepB B c k) = true then [(k : Int)] else []) := by
  unfold nearL
  rw [List.range_succ, List.map_append, List.filter_append]
  congr 1
  by_cases h : ((k : Int) != c && stepB B c k) = true
  · rw [if_pos h]; simp [h]
  · rw [if_neg h]
    have h' : ((k : Int) != c && stepB B c k) = false := by simpa using h
    simp [h']
theorem nearL_len (B : Brd) (c : Int) (k : Nat) : (nearL B c k).length ≤ k := by
  unfold nearL
  exact Nat.le_trans (List.length_filter_le _ _) (by simp)

set_option maxRecDepth 100000 in
set_option maxHeartbeats 2000000 in
theorem refNear_any (B : Brd) (hB : B.Ok) (an at_ : Option Addr) (cn ct : Nat) (c : Int) (w : World) (hH : Held w.heap.size w an at_ B) :
    Calls Tryd.prog 19 #[B.val an cn at_ ct, .int .i64 c] w fun e w' => ∃ v, e = .returned v ∧ OwnInts w.heap.size w' v (nearS B c) ∧ Below w.heap.size w w' := by
  rw [nearS_eq hB]
  have hhi := hB.hi
  have hlo := hB.lo
  obtain ⟨n, hn⟩ := Int.eq_ofNat_of_zero_le (show 0 ≤ B.cells by omega)
  have e1 : B.cells.toNat = n := by omega
  rw [e1]
  have hle1 : B.cells ≤ n := by omega
  have hle2 : (n : Int) ≤ B.cells := by omega
  have hn64 : n ≤ 64 := by omega
  have y0 := InBox.new cn ct hH
  have hbw0 : Below w.heap.size w (w.alloc (.cells #[.int .i64 B.cells, .slice an B.next.length cn, .slice at_ B.turn.length ct] 31)) := below_alloc (Below.refl _ _) _
  clear hH hn e1
  go_enter Tryd.func19, Tryd.ntmps19
  go_wp2_with fail
  have hbs : w.heap.size < (w.alloc (.cells #[.int .i64 B.cells, .slice an B.next.length cn, .slice at_ B.turn.length ct] 31)).heap.size := by rw [World.size_alloc]; omega
  have hsz : (w.alloc (.cells #[.int .i64 B.cells, .slice an B.next.length cn, .slice at_ B.turn.length ct] 31)).heap.size = w.heap.size + 1 := World.size_alloc _ _
  generalize w.alloc (.cells #[.int .i64 B.cells, .slice an B.next.length cn, .slice at_ B.turn.length ct] 31) = w1 at *
  have hown := own_empty w1
  have hb2 : Below w1.heap.size w1 (w1.alloc (.cells #[] 3)) := (Below.refl _ _).alloc (Nat.le_refl _) _
  generalize hb1 : w.heap.size = b1 at *
  generalize w1.alloc (.cells #[] 3) = w2 at *
  have HB1 := Lib.hid hb1
  have HSZ := Lib.hid hsz
  clear hb1 hsz
  go_loopw [5, 6] (fun o i wr => ∃ k : Nat, k ≤ n ∧ i = .int .i64 k ∧ OwnInts w1.heap.size wr o (nearL B c k) ∧ Below w1.heap.size w1 wr)
    (fun _ i _ => n - (intOf i).toNat)
  case atStart => exact ⟨0, Nat.zero_le _, rfl, by rw [← HSZ.out]; exact hown, hb2⟩
  case round =>
    clear hown hb2
    obtain ⟨k, hk, rfl, ho, hbi⟩ := hrel
    have y := y0.up hbi
    obtain ⟨c0, c1, c2, hH⟩ := id y
    have hsuc := nearL_succ B c k
    have hlen := nearL_len B c k
    generalize hL : nearL B c k = L at ho hsuc hlen
    have HL := Lib.hid hL
    clear hL
    have HLN := Lib.hid hlen
    clear hlen
    by_cases hlt : k < n
    · have t0 : decide ((k : Int) < B.cells) = true := by simp; omega
      by_cases h : (k : Int) = c
      · have t1 : ((k : Int) == c) = true := by simpa using h
        have t2 : decide ((k : Int) = c) = true := by simpa using h
        have t3 : ((k : Int) != c) = false := by simpa using h
        have t4 : decide (¬ (k : Int) = c) = false := by simpa using h
        have t5 : decide ((k : Int) ≠ c) = false := by simpa using h
        rw [if_neg (by simp [h]), List.append_nil] at hsuc
        have HS := Lib.hid hsuc
        clear hsuc h
        go_wp2
        go_roundw
        case rel => exact ⟨k + 1, by omega, by simp, by rw [HS.out]; exact ho, hbi⟩
        case measure => simp [intOf]; omega
      · have t1 : ((k : Int) == c) = false := by simpa using h
        have t2 : decide ((k : Int) = c) = false := by simpa using h
        have t3 : ((k : Int) != c) = true := by simpa using h
        have t4 : decide (¬ (k : Int) = c) = true := by simpa using h
        have t5 : decide ((k : Int) ≠ c) = true := by simpa using h
        have hne : ((k : Int) != c) = true := by simpa using h
        rw [hne, Bool.true_and] at hsuc
        have HS := Lib.hid hsuc
        clear hsuc h hne
        go_wp2_with fail
        refine (step_any B hB an at_ cn ct c k wr hH).mono ?_
        rintro e w4 ⟨rfl, hb4⟩
        have hs := HS.out
        have hb5 : Below w1.heap.size w1 w4 := below_step hbi hb4
        have ho4 : OwnInts w1.heap.size w4 _ L := ho.alters (S := fun _ => False) (Alters.of_below hb4) (fun _ h => h.elim)
        generalize stepB B c k = s at hs ⊢
        clear HS c0 c1 c2 hH hb4 ho
        cases s
        · have HS := Lib.hid hs
          clear hs
          go_wp2
          go_roundw
          case rel => exact ⟨k + 1, by omega, by simp, by rw [HS.out]; simpa using ho4, hb5⟩
          case measure => simp [intOf]; omega
        · have HS := Lib.hid hs
          clear hs
          have hAB : Below w4.heap.size w4 (w4.alloc (.cells #[.int .i64 (k : Int)] 3)) := (Below.refl _ _).alloc (Nat.le_refl _) _
          have HNA := Lib.hid (ho4.alters (S := fun _ => False) (Alters.of_below hAB) (fun _ h => h.elim))
          have HN := Lib.hid ho4
          clear ho4
          go_wp2_with (at_builtin; go_loud (refine wpList_push rfl (.tmp 23) (.tmp 25) rfl w1.heap.size _ L rfl HNA.out (by have := HLN.out; omega) (Nat.le_trans hb5.size hAB.size) ⟨w4.heap.size, 0, none⟩ k rfl (cell_new_at _ _ _ _ _ _ rfl rfl) ?_; intro g6 cap6 w6 hown6 hg6 hat6))
          have hb6 := push_below hb5 hAB hb5.size HN.out hg6
          clear hat6
          go_roundw
          case rel => exact ⟨k + 1, by omega, by simp, by rw [HS.out]; simpa using hown6, hb6⟩
          case measure => simp [intOf]; omega
    · obtain rfl : k = n := by omega
      have t0 : decide ((k : Int) < B.cells) = false := by simp; omega
      go_wp2
      go_ret
      rw [HB1.out, HL.out]
      exact ⟨_, rfl, OwnInts.mono ho (Nat.le_of_lt hbs), hbw0.trans (hbi.mono (Nat.le_of_lt hbs))⟩
end Go.Proofs.YtcpjkilnbhfpjaaDoor
