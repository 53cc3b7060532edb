/-
  Turned of the package prog.
-/
import Derived.Test.YtidgdfjnjgonoaaGreatDoorPStp
namespace Go.Proofs.YtidgdfjnjgonoaaGreatDoor
open Go Go.RowKit

def turn1 (ts : List Int) (x : Int × Int) : Int × Int := if hasDirB x.1 = true ∧ 0 ≤ x.2 ∧ x.2 < (ts.length : Int) then (x.1, ts[x.2.toNat]?.getD 0) else x

set_option maxRecDepth 100000 in
set_option maxHeartbeats 2000000 in
/-- The function that turns one step; the list of turns lies in a box. -/
theorem turn1_any (ts : List Int) (a : Option Addr) (c N Bt : Nat) (op n : Int) (w : World) (hN : N ≤ w.heap.size) (hT : Ints N w a ts) (hS : SignsIn w) (hbox : w.cell? ⟨Bt, 0, none⟩ = some (.slice a ts.length c)) :
    Calls Tryz.prog 44 #[.agg #[.int .i64 op, .int .i64 n], .pointer (some ⟨Bt, 0, none⟩)] w fun e w' => e = .returned (.agg #[.int .i64 (turn1 ts (op, n)).1, .int .i64 (turn1 ts (op, n)).2]) ∧ Below w.heap.size w w' := by
  have hbl := World.block_lt_of_cell? w _ hbox
  go_enter Tryz.func44, Tryz.ntmps44
  go_wp2_with fail
  obtain ⟨w1, hw1⟩ : ∃ w1, w1 = w.alloc (.cells #[.int .i64 op, .int .i64 n] 41) := ⟨_, rfl⟩
  have s1 : w1.heap.size = w.heap.size + 1 := by rw [hw1, World.size_alloc]
  have x1 : w1.heap[w.heap.size]? = some (.cells #[.int .i64 op, .int .i64 n] 41 (0, 0)) := by rw [hw1]; exact World.alloc_heap_new _ _
  have b1 : Below w.heap.size w w1 := by rw [hw1]; exact below_alloc (Below.refl _ _) _
  rw [← hw1]
  clear hw1
  obtain ⟨w2, hw2⟩ : ∃ w2, w2 = w1.alloc (.cells #[.int .i64 0, .int .i64 0] 41) := ⟨_, rfl⟩
  have s2 : w2.heap.size = w.heap.size + 1 + 1 := by rw [hw2, World.size_alloc, s1]
  have x2 : w2.heap[w.heap.size + 1]? = some (.cells #[.int .i64 0, .int .i64 0] 41 (0, 0)) := by rw [hw2, ← s1]; exact World.alloc_heap_new _ _
  have b2 : Below w1.heap.size w1 w2 := by rw [hw2]; exact below_alloc (Below.refl _ _) _
  rw [← hw2]
  clear hw2
  replace x1 := (b2.block w.heap.size (by omega)).trans x1
  have b2w := below_step b1 b2
  refine (hasDir_any op n w2 (hS.up b2w)).mono ?_
  rintro e w4 ⟨rfl, hb4⟩
  replace x1 := (hb4.block w.heap.size (by omega)).trans x1
  replace x2 := (hb4.block (w.heap.size + 1) (by omega)).trans x2
  have b4 := below_step b2w hb4
  have hT4 := hT.up hN b4
  have hbx := cell_keep b4 hbox
  have c0 : w4.cell? ⟨w.heap.size, 0, none⟩ = some (.int .i64 op) := by unfold World.cell?; rw [x1]; rfl
  have c1 : w4.cell? ⟨w.heap.size, 1, none⟩ = some (.int .i64 n) := by unfold World.cell?; rw [x1]; rfl
  have f1 : w4.frozen? ⟨w.heap.size, 1, none⟩ = false := by unfold World.frozen?; rw [x1]; simp
  have d0 : w4.cell? ⟨w.heap.size + 1, 0, none⟩ = some (.int .i64 0) := by unfold World.cell?; rw [x2]; rfl
  have d1 : w4.cell? ⟨w.heap.size + 1, 1, none⟩ = some (.int .i64 0) := by unfold World.cell?; rw [x2]; rfl
  have g0 : w4.frozen? ⟨w.heap.size + 1, 0, none⟩ = false := by unfold World.frozen?; rw [x2]; simp
  have g1 : w4.frozen? ⟨w.heap.size + 1, 1, none⟩ = false := by unfold World.frozen?; rw [x2]; simp
  have hno : ¬ (hasDirB op = true ∧ 0 ≤ n ∧ n < (ts.length : Int)) → turn1 ts (op, n) = (op, n) := fun h => by unfold turn1; rw [if_neg h]
  have hyes : (hasDirB op = true ∧ 0 ≤ n ∧ n < (ts.length : Int)) → turn1 ts (op, n) = (op, ts[n.toNat]?.getD 0) := fun h => by unfold turn1; rw [if_pos h]
  have HNO := Lib.hid hno
  have HYES := Lib.hid hyes
  clear hno hyes x1 x2 s1 s2 b1 b2 b2w hb4 hbox hT
  cases hd : hasDirB op with
  | false =>
    have HT := Lib.hid (HNO.out (by simp [hd]))
    clear hd
    go_wp2
    refine bodyPost_ret_by (v := .agg #[.int .i64 op, .int .i64 n]) (by rw [results_cell1 rfl]; go_simp) rfl ?_
    exact ⟨by rw [HT.out], (b4.setCell (by show w.heap.size ≤ w.heap.size + 1; omega) _).setCell (by show w.heap.size ≤ w.heap.size + 1; omega) _⟩
  | true =>
    by_cases h0 : n < 0
    · have HT := Lib.hid (HNO.out (by omega))
      have t1 : decide (0 ≤ n) = false := by simp; omega
      clear hd
      go_wp2
      refine bodyPost_ret_by (v := .agg #[.int .i64 op, .int .i64 n]) (by rw [results_cell1 rfl]; go_simp) rfl ?_
      exact ⟨by rw [HT.out], (b4.setCell (by show w.heap.size ≤ w.heap.size + 1; omega) _).setCell (by show w.heap.size ≤ w.heap.size + 1; omega) _⟩
    have t1 : decide (0 ≤ n) = true := by simp; omega
    by_cases h1 : (ts.length : Int) ≤ n
    · have HT := Lib.hid (HNO.out (by omega))
      have t2 : decide (n < (ts.length : Int)) = false := by simp; omega
      clear hd
      go_wp2
      refine bodyPost_ret_by (v := .agg #[.int .i64 op, .int .i64 n]) (by rw [results_cell1 rfl]; go_simp) rfl ?_
      exact ⟨by rw [HT.out], (b4.setCell (by show w.heap.size ≤ w.heap.size + 1; omega) _).setCell (by show w.heap.size ≤ w.heap.size + 1; omega) _⟩
    have t2 : decide (n < (ts.length : Int)) = true := by simp; omega
    have HT := Lib.hid (HYES.out ⟨hd, by omega, by omega⟩)
    obtain ⟨j, rfl⟩ := Int.eq_ofNat_of_zero_le (show 0 ≤ n by omega)
    rw [Int.toNat_natCast] at HT
    have hj : j < ts.length := by omega
    obtain ⟨b, off, ha, hb, hc⟩ := hT4.at_ hj
    subst ha
    generalize ts[j]?.getD 0 = y at hc HT
    clear hd hT4 HYES HNO
    go_wp2
    refine bodyPost_ret_by (v := .agg #[.int .i64 op, .int .i64 y]) (by rw [results_cell1 rfl]; go_simp) rfl ?_
    exact ⟨by rw [HT.out], ((b4.setCell (by show w.heap.size ≤ w.heap.size; omega) _).setCell (by show w.heap.size ≤ w.heap.size + 1; omega) _).setCell (by show w.heap.size ≤ w.heap.size + 1; omega) _⟩

def turnTo (ts : List Int) (l : List (Int × Int)) (q : Nat) : List (Int × Int) := (List.range l.length).map fun j => if j < q then turn1 ts (l[j]?.getD (0, 0)) else (0, 0)
theorem turnTo_len (ts : List Int) (l : List (Int × Int)) (q : Nat) : (turnTo ts l q).length = l.length := by simp [turnTo]
theorem turnTo_zero (ts : List Int) (l : List (Int × Int)) : turnTo ts l 0 = List.replicate l.length (0, 0) := by
  apply List.ext_getElem
  · simp [turnTo]
  · intro i h1 h2; simp [turnTo]
theorem turnTo_succ (ts : List Int) (l : List (Int × Int)) (q : Nat) (h : q < l.length) : turnTo ts l (q + 1) = (turnTo ts l q).set q (turn1 ts (l[q]?.getD (0, 0))) := by
  apply List.ext_getElem
  · simp [turnTo]
  · intro i h1 h2
    by_cases e : i = q
    · subst e; rw [List.getElem_set_self]; simp [turnTo]
    · rw [List.getElem_set_ne (fun h => e h.symm)]
      simp only [turnTo, List.getElem_map, List.getElem_range]
      by_cases hi : i < q
      · rw [if_pos hi, if_pos (by omega)]
      · rw [if_neg hi, if_neg (by omega)]
theorem turnTo_full (ts : List Int) (l : List (Int × Int)) : turnTo ts l l.length = l.map (turn1 ts) := by
  apply List.ext_getElem
  · simp [turnTo]
  · intro i h1 h2
    have hi : i < l.length := by simpa using h2
    simp [turnTo, hi]

set_option maxRecDepth 100000 in
set_option maxHeartbeats 2000000 in
theorem rewritten_any (ts : List Int) (a : Option Addr) (c : Nat) (l : List (Int × Int)) (al : Option Addr) (cl N Bt : Nat) (w : World) (hl : l.length ≤ 100) (hN : N ≤ w.heap.size) (hL : Prg N w al l) (hT : Ints N w a ts) (hS : SignsIn w) (hbox : w.cell? ⟨Bt, 0, none⟩ = some (.slice a ts.length c)) :
    Calls Tryz.prog 43 #[.slice al l.length cl, .func (.func 44) #[] #[.pointer (some ⟨Bt, 0, none⟩)]] w fun e w' => ∃ v, e = .returned v ∧ OwnStp w.heap.size w' v (l.map (turn1 ts)) ∧ Below w.heap.size w w' := by
  obtain ⟨i0, hi, hz0, hz1, hz2⟩ := info_parts info_step
  go_enter Tryz.func43, Tryz.ntmps43
  go_wp2_with (at_make; go_loud (refine wpList_make_full _ rfl _ _ 26 rfl w.heap.size 41 i0 (.agg #[.int .i64 0, .int .i64 0]) 2 Tryz.underlying26 hi hz0 hz1 .i64 .i64 l.length l.length l.length rfl rfl rfl rfl (by rw [hz2]; omega) (by unfold maxLen; omega) (by omega) ?_; intro w5 hown5 hgrow5))
  rw [flatP_zero] at hown5
  have ho5 : OwnStp w.heap.size w5 (.slice (some ⟨w.heap.size, 0, none⟩) l.length l.length) (turnTo ts l 0) := by
    rw [turnTo_zero]
    unfold OwnStp
    rw [List.length_replicate]
    exact hown5
  have hb5 : Below w.heap.size w w5 := (Alters.of_grown hgrow5).below (Nat.le_refl _) (fun k hk => by cases hk)
  clear hown5 hgrow5
  go_loopw [13] (fun i wr => ∃ q : Nat, q ≤ l.length ∧ i = .int .i64 q ∧ OwnStp w.heap.size wr (.slice (some ⟨w.heap.size, 0, none⟩) l.length l.length) (turnTo ts l q) ∧ Below w.heap.size w wr)
    (fun i _ => l.length - (intOf i).toNat)
  case atStart => exact ⟨0, Nat.zero_le _, rfl, ho5, hb5⟩
  case round =>
    clear ho5 hb5
    obtain ⟨q, hq, rfl, ho, hbw⟩ := hrel
    by_cases hlt : q < l.length
    · obtain ⟨b, off, hab, hbN, hop, hnn⟩ := (hL.up hN hbw).at_ hlt
      subst hab
      have hsuc := turnTo_succ ts l q hlt
      have htl := turnTo_len ts l q
      generalize l[q]?.getD (0, 0) = x at hop hnn hsuc
      obtain ⟨op, n⟩ := x
      dsimp only at hop hnn
      have HS := Lib.hid hsuc
      have HTL := Lib.hid htl
      clear hsuc htl
      have hbs : Below wr.heap.size wr (wr.alloc (.cells #[.int .i64 op, .int .i64 n] 41)) := below_alloc (Below.refl _ _) _
      have hbw6 := below_step hbw hbs
      have ho6 := ho.below hbs
      have hbw6' := hbw6
      go_wp2_with fail
      generalize wr.alloc (.cells #[.int .i64 op, .int .i64 n] 41) = w6 at *
      refine (turn1_any ts a c N Bt op n w6 (Nat.le_trans hN hbw6.size) (hT.up hN hbw6) (hS.up hbw6) (cell_keep hbw6 hbox)).mono ?_
      rintro e w7 ⟨rfl, hb7⟩
      have ho7 := ho6.below hb7
      have hbw7 := below_step hbw6 hb7
      obtain ⟨g1, g2, gf⟩ := ho7.cellAt (j := q) (by rw [HTL.out]; exact hlt)
      have gf1 := gf (q * 2)
      have gf2 := gf (q * 2 + 1)
      have hset := ho7.put (j := q) (by rw [HTL.out]; exact hlt) (turn1 ts (op, n))
      rw [← HS.out] at hset
      generalize turn1 ts (op, n) = y at hset ⊢
      obtain ⟨y1, y2⟩ := y
      dsimp only at hset ⊢
      have HSET := Lib.hid hset
      have HB := Lib.hid ((hbw7.setCell (p := ⟨w.heap.size, q * 2, none⟩) (by show w.heap.size ≤ w.heap.size; omega) (.int .i64 y1)).setCell (p := ⟨w.heap.size, q * 2 + 1, none⟩) (by show w.heap.size ≤ w.heap.size; omega) (.int .i64 y2))
      clear hset ho7 hbw7 hb7 ho6 hbw6 ho hbw gf hbs hop hnn hbw6'
      generalize (turnTo ts l q)[q]?.getD (0, 0) = z at g1 g2
      go_wp2
      go_roundw
      case rel => exact ⟨q + 1, by omega, by simp, HSET.out, HB.out⟩
      case measure => simp [intOf]; omega
    · obtain rfl : q = l.length := by omega
      rw [turnTo_full] at ho
      have HO := Lib.hid ho
      clear ho
      go_wp2
      go_ret
      exact ⟨_, rfl, by have := HO.out; unfold OwnStp at this ⊢; rw [List.length_map] at this ⊢; exact this, hbw⟩

theorem turned_any (ts : List Int) (a : Option Addr) (c : Nat) (l : List (Int × Int)) (al : Option Addr) (cl N : Nat) (w : World) (hl : l.length ≤ 100) (hN : N ≤ w.heap.size) (hL : Prg N w al l) (hT : Ints N w a ts) (hS : SignsIn w) :
    Calls Tryz.prog 26 #[.slice al l.length cl, .slice a ts.length c] w fun e w' => ∃ v, e = .returned v ∧ OwnStp w.heap.size w' v (l.map (turn1 ts)) ∧ Below w.heap.size w w' := by
  have hb1 : Below w.heap.size w (w.alloc (.cells #[.slice a ts.length c] 33)) := below_alloc (Below.refl _ _) _
  have hs1 : (w.alloc (.cells #[.slice a ts.length c] 33)).heap.size = w.heap.size + 1 := World.size_alloc _ _
  have hr := rewritten_any ts a c l al cl N w.heap.size (w.alloc (.cells #[.slice a ts.length c] 33)) hl (Nat.le_trans hN hb1.size) (hL.up hN hb1) (hT.up hN hb1) (hS.up hb1) (cell_new_at _ _ _ _ _ _ rfl rfl)
  have HR := Lib.hid hr
  have HS1 := Lib.hid hs1
  clear hr hs1
  go_enter Tryz.func26, Tryz.ntmps26
  go_wp2_with fail
  refine HR.out.mono ?_
  rintro e w' ⟨v, rfl, ho, hb⟩
  have ho' := ho.mono (m := w.heap.size) hb1.size
  have hb' := below_step hb1 hb
  clear ho hb
  go_wp2
  go_ret
  exact ⟨_, rfl, ho', hb'⟩
end Go.Proofs.YtidgdfjnjgonoaaGreatDoor
