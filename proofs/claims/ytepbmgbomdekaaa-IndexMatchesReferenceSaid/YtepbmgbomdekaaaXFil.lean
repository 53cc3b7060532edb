/-
  filling: its functions ways and put, over the numbers that are left.
-/
import Derived.Test.YtepbmgbomdekaaaXArr
import Derived.Test.YtepbmgbomdekaaaXBx
import Derived.Deep.QuietTactic
import Derived.Test.YtepbmgbomdekaaaQTail
namespace Go.Proofs.Ytepbmgbomdekaaa
open Go Go.RowKit

/-- A list with zeros behind it, of 13 in all. -/
def pad (l : List Nat) : List Nat := (List.range 13).map fun j => l.getD j 0
theorem pad_len (l : List Nat) : (pad l).length = 13 := by simp [pad]
theorem pad_at (l : List Nat) (x : Nat) : (pad l).getD x 0 = if x < 13 then l.getD x 0 else 0 := by
  simp only [pad, List.getD_eq_getElem?_getD, List.getElem?_map]
  by_cases h : x < 13
  · simp [h]
  · simp [h]
theorem pad_app {l : List Nat} (h : l.length ≤ 13) : pad l = l ++ List.replicate (13 - l.length) 0 := by
  apply List.ext_getElem
  · simp [pad]; omega
  · intro i h1 h2
    simp only [pad, List.getElem_map, List.getElem_range, List.getElem_append, List.getElem_replicate, List.getD_eq_getElem?_getD]
    split
    · rename_i h3; simp [h3]
    · rename_i h3; simp [h3]
theorem waysF_zeros (n : Nat) (l : List Nat) (k : Nat) : waysF n (l ++ List.replicate k 0) = waysF n l := by
  induction l generalizing n with
  | nil =>
    simp only [List.nil_append]
    induction k with
    | zero => rfl
    | succ k ih => simp only [List.replicate_succ, waysF, ch_zero, Nat.one_mul, Nat.add_zero]; exact ih
  | cons a l ih => simp only [List.cons_append, waysF]; rw [ih]
theorem ways_pad {l : List Nat} (h : l.length ≤ 13) : ways (pad l) = ways l := by rw [pad_app h]; exact waysF_zeros 0 l _
theorem sum_pad {l : List Nat} (h : l.length ≤ 13) : (pad l).sum = l.sum := by rw [pad_app h]; simp
theorem dec_pad {l : List Nat} (x : Nat) : dec (pad l) x = pad (dec l x) := by
  apply List.ext_getElem
  · rw [dec_length, pad_len, pad_len]
  · intro i h1 h2
    have e1 := dec_at (pad l) x i
    have e2 := pad_at (dec l x) i
    rw [pad_len] at h2
    rw [List.getD_eq_getElem?_getD, List.getElem?_eq_getElem h1, Option.getD_some] at e1
    rw [List.getD_eq_getElem?_getD, List.getElem?_eq_getElem (by rw [pad_len]; exact h2), Option.getD_some, if_pos h2] at e2
    rw [e1, e2, dec_at, pad_at, pad_at, if_pos h2]
    by_cases e : x = i
    · subst e; rw [if_pos rfl, if_pos rfl, if_pos h2]
    · rw [if_neg e, if_neg e]
theorem term_pad {l : List Nat} (h : l.length ≤ 13) (x : Nat) : term (pad l) x = term l x := by
  unfold term
  have e : (pad l).getD x 0 = l.getD x 0 := by
    rw [pad_at]
    split
    · rfl
    · rw [List.getD_eq_getElem?_getD, List.getElem?_eq_none (by omega)]; rfl
  rw [e, dec_pad, ways_pad (by rw [dec_length]; exact h)]
theorem below_pad {l : List Nat} (h : l.length ≤ 13) (x : Nat) : below (pad l) x = below l x := by
  induction x with
  | zero => rfl
  | succ x ih => simp only [below]; rw [ih, term_pad h]
theorem rank_pad {l : List Nat} (h : l.length ≤ 13) (p : List Nat) : rankS (pad l) p = rankS l p := by
  induction p generalizing l with
  | nil => rfl
  | cons c p ih => simp only [rankS]; rw [below_pad h, dec_pad, ih (by rw [dec_length]; exact h)]
theorem counts_pad {l p : List Nat} (h : l.length ≤ 13) (hc : Counts l p) : Counts (pad l) p := by
  refine ⟨by rw [sum_pad h]; exact hc.1, fun x => ?_⟩
  rw [← hc.2 x, pad_at]
  split
  · rfl
  · rw [List.getD_eq_getElem?_getD, List.getElem?_eq_none (by omega)]; rfl

/-- The cells of the numbers that are left. -/
def lefts (P : List Nat) : Array Value := ((zs (pad P)).map (Value.int .i64)).toArray
/-- What the functions of filling look at, from block h on. -/
structure FB (W : World) (h : Nat) (P : List Nat) : Prop where
  v : W.heap[h]? = some (.cells #[.func (.func 48) #[] #[.pointer (some ⟨h + 3, 0, none⟩), .pointer (some ⟨h + 1, 0, none⟩), .pointer (some ⟨h + 2, 0, none⟩)]] 72 (0, 0))
  l : W.heap[h + 1]? = some (.cells (lefts P) 89 (0, 0))
  c : W.heap[h + 2]? = some (.cells #[.int .i64 (P.sum : Nat)] 3 (0, 0))
  a : W.heap[h + 3]? = some (.cells #[.int .i64 (ways P : Nat)] 3 (0, 0))
def waysV (h : Nat) : Value := .func (.func 48) #[] #[.pointer (some ⟨h + 3, 0, none⟩), .pointer (some ⟨h + 1, 0, none⟩), .pointer (some ⟨h + 2, 0, none⟩)]
def putV (h : Nat) : Value := .func (.func 49) #[] #[.pointer (some ⟨h, 0, none⟩), .pointer (some ⟨h + 3, 0, none⟩), .pointer (some ⟨h + 1, 0, none⟩), .pointer (some ⟨h + 2, 0, none⟩)]
theorem FB.up {W W' : World} {h : Nat} {P : List Nat} (hF : FB W h P) (hb : Below W.heap.size W W') : FB W' h P :=
  ⟨(hb.block _ (bx_lt hF.v)).trans hF.v, (hb.block _ (bx_lt hF.l)).trans hF.l, (hb.block _ (bx_lt hF.c)).trans hF.c, (hb.block _ (bx_lt hF.a)).trans hF.a⟩
theorem lefts_at (P : List Nat) (x : Nat) (h : x < 13) : (lefts P)[x]? = some (.int .i64 ((P.getD x 0 : Nat) : Int)) := by
  simp only [lefts, zs, pad, List.getElem?_toArray, List.getElem?_map, List.getElem?_range h, Option.map_some]

set_option maxRecDepth 100000 in
set_option maxHeartbeats 1000000 in
theorem waysf_any (P : List Nat) (h x n : Nat) (w : World) (hx : x < 13) (hF : FB w h P) (hs : P.sum = n + 1) (hn : n < 64) (hw : ways P ≤ 1099511627776) :
    Calls Try.prog 48 #[.int .i64 (x : Int), .pointer (some ⟨h + 3, 0, none⟩), .pointer (some ⟨h + 1, 0, none⟩), .pointer (some ⟨h + 2, 0, none⟩)] w fun e w' => e = .returned (.int .i64 (term P x : Nat)) ∧ ∃ k, w' = w.drewN k := by
  have HM := Lib.hid (term_mul hs x)
  have c1 : w.cell? ⟨h + 2, 0, none⟩ = some (.int .i64 (P.sum : Nat)) := bx_cell hF.c 0 rfl
  have c2 : w.cell? ⟨h + 3, 0, none⟩ = some (.int .i64 (ways P : Nat)) := bx_cell hF.a 0 rfl
  have hx13 : (x : Int) < 13 := by omega
  have c3 := bx_cell hF.l x (lefts_at P x hx)
  rw [hs] at c1
  have hl : P.getD x 0 ≤ 64 := by
    have h1 := sum_take P x
    have h2 := sum_take_le P (x + 1)
    omega
  generalize P.getD x 0 = y at *
  generalize ways P = A at *
  generalize term P x = T at *
  have l1 := bx_lt hF.v
  have l2 := bx_lt hF.l
  have l3 := bx_lt hF.c
  have l4 := bx_lt hF.a
  have hm : A * y ≤ 1099511627776 * 64 := Nat.mul_le_mul hw hl
  have e1 : (A : Int) * (y : Int) = ((A * y : Nat) : Int) := by push_cast; rfl
  have hm1 : (A : Int) * (y : Int) ≤ 72057594037927936 := by rw [e1]; omega
  have hm2 : 0 ≤ (A : Int) * (y : Int) := by rw [e1]; omega
  have e2 : (A : Int) * (y : Int) / ((n + 1 : Nat) : Int) = (T : Int) := by
    rw [e1, ← Int.natCast_ediv, ← HM.out, Nat.mul_div_cancel _ (by omega)]
  have hn1 : ¬ (n : Int) + 1 = 0 := by omega
  have HV := Lib.hid (show IntKind.i64.wrap ((IntKind.i64.wrap ((A : Int) * (y : Int))).tdiv ((n : Int) + 1)) = (T : Int) by
    rw [IntWalk.i64_in ((A : Int) * (y : Int)) (by omega), Int.tdiv_eq_ediv_of_nonneg hm2, show (n : Int) + 1 = ((n + 1 : Nat) : Int) by omega, e2]
    refine IntWalk.i64_in _ ⟨by omega, ?_⟩
    have h1 : T ≤ A * y := by rw [← HM.out]; exact Nat.le_mul_of_pos_right _ (by omega)
    omega)
  clear e1 e2 hF hs
  go_enter Try.func48, Try.ntmps48
  go_wp2_with fail
  go_quiet (fail)
  go_wp2
  go_ret
  exact ⟨by rw [HV.out]; rfl, _, rfl⟩

theorem lefts_dec (P : List Nat) (x : Nat) (hx : x < 13) (h0 : 0 < P.getD x 0) : (lefts P).setIfInBounds x (.int .i64 (((P.getD x 0 : Nat) : Int) - 1)) = lefts (dec P x) := by
  apply Array.ext_getElem?
  intro i
  rcases Nat.lt_or_ge i 13 with hi | hi
  · rw [lefts_at _ _ hi, dec_at, Array.getElem?_setIfInBounds]
    by_cases e : x = i
    · subst e
      have : x < (lefts P).size := by simp [lefts, zs, pad]; exact hx
      rw [if_pos rfl, if_pos this, if_pos rfl, show ((P.getD x 0 - 1 : Nat) : Int) = ((P.getD x 0 : Nat) : Int) - 1 by omega]
    · rw [if_neg e, if_neg e, lefts_at _ _ hi]
  · rw [Array.getElem?_eq_none (by simp [lefts, zs, pad]; omega), Array.getElem?_eq_none (by simp [lefts, zs, pad]; omega)]
theorem hp_far (W : World) (B j : Nat) (v : Value) (k : Nat) (h : k ≠ B) : (W.setCell ⟨B, j, none⟩ v).heap[k]? = W.heap[k]? := Below.heap_setCell _ _ _ _ h
theorem FB.put {w : World} {h x n : Nat} {P : List Nat} (hF : FB w h P) (hx : x < 13) (hs : P.sum = n + 1) (h0 : 0 < P.getD x 0) (k : Nat) :
    FB ((((w.drewN k).setCell ⟨h + 3, 0, none⟩ (.int .i64 (ways (dec P x) : Nat))).setCell ⟨h + 1, x, none⟩ (.int .i64 (((P.getD x 0 : Nat) : Int) - 1))).setCell ⟨h + 2, 0, none⟩ (.int .i64 (n : Int))) h (dec P x) ∧
      Alters (fun k => h ≤ k ∧ k ≤ h + 3) w ((((w.drewN k).setCell ⟨h + 3, 0, none⟩ (.int .i64 (ways (dec P x) : Nat))).setCell ⟨h + 1, x, none⟩ (.int .i64 (((P.getD x 0 : Nat) : Int) - 1))).setCell ⟨h + 2, 0, none⟩ (.int .i64 (n : Int))) := by
  have hd := sum_dec h0
  have en : (dec P x).sum = n := by omega
  refine ⟨⟨?_, ?_, ?_, ?_⟩, ?_⟩
  · rw [hp_far _ _ _ _ _ (by omega), hp_far _ _ _ _ _ (by omega), hp_far _ _ _ _ _ (by omega)]; exact hF.v
  · rw [hp_far _ _ _ _ _ (by omega), ← lefts_dec P x hx h0]
    refine bx_set ?_ x _
    rw [hp_far _ _ _ _ _ (by omega)]; exact hF.l
  · rw [en]
    refine (bx_set (cs := #[.int .i64 (P.sum : Nat)]) ?_ 0 _).trans rfl
    rw [hp_far _ _ _ _ _ (by omega), hp_far _ _ _ _ _ (by omega)]; exact hF.c
  · rw [hp_far _ _ _ _ _ (by omega), hp_far _ _ _ _ _ (by omega)]
    exact (bx_set (cs := #[.int .i64 (ways P : Nat)]) hF.a 0 _).trans rfl
  · have a1 := alters_cell (w.drewN k) (h + 3) 0 (.int .i64 (ways (dec P x) : Nat))
    have a2 := alters_cell ((w.drewN k).setCell ⟨h + 3, 0, none⟩ (.int .i64 (ways (dec P x) : Nat))) (h + 1) x (.int .i64 (((P.getD x 0 : Nat) : Int) - 1))
    have a3 := alters_cell (((w.drewN k).setCell ⟨h + 3, 0, none⟩ (.int .i64 (ways (dec P x) : Nat))).setCell ⟨h + 1, x, none⟩ (.int .i64 (((P.getD x 0 : Nat) : Int) - 1))) (h + 2) 0 (.int .i64 (n : Int))
    have a0 : Alters (fun k => h ≤ k ∧ k ≤ h + 3) w (w.drewN k) := Alters.of_below (below_drewN_ (Below.refl _ _) k)
    exact ((a0.trans (a1.mono (fun k _ hk => by have : k = h + 3 := hk; omega))).trans (a2.mono (fun k _ hk => by have : k = h + 1 := hk; omega))).trans (a3.mono (fun k _ hk => by have : k = h + 2 := hk; omega))
set_option maxRecDepth 100000 in
set_option maxHeartbeats 1000000 in
theorem putf_any (P : List Nat) (h x n : Nat) (w : World) (hx : x < 13) (hF : FB w h P) (hs : P.sum = n + 1) (hn : n < 64) (hw : ways P ≤ 1099511627776) (h0 : 0 < P.getD x 0) :
    Calls Try.prog 49 #[.int .i64 (x : Int), .pointer (some ⟨h, 0, none⟩), .pointer (some ⟨h + 3, 0, none⟩), .pointer (some ⟨h + 1, 0, none⟩), .pointer (some ⟨h + 2, 0, none⟩)] w fun e w' => (∃ v, e = .returned v) ∧ FB w' h (dec P x) ∧ Alters (fun k => h ≤ k ∧ k ≤ h + 3) w w' := by
  have HC := Lib.hid (waysf_any P h x n w hx hF hs hn hw)
  have c0 : w.cell? ⟨h, 0, none⟩ = some (waysV h) := bx_cell hF.v 0 rfl
  have c1 : w.cell? ⟨h + 2, 0, none⟩ = some (.int .i64 (P.sum : Nat)) := bx_cell hF.c 0 rfl
  have c2 : w.cell? ⟨h + 3, 0, none⟩ = some (.int .i64 (ways P : Nat)) := bx_cell hF.a 0 rfl
  have c3 := bx_cell hF.l x (lefts_at P x hx)
  have hx13 : (x : Int) < 13 := by omega
  have f1 := bx_frozen hF.c 0
  have f2 := bx_frozen hF.a 0
  have f3 := bx_frozen hF.l x
  have l1 := bx_lt hF.v
  have l2 := bx_lt hF.l
  have l3 := bx_lt hF.c
  have l4 := bx_lt hF.a
  have hy : P.getD x 0 ≤ 64 := by
    have h1 := sum_take P x
    have h2 := sum_take_le P (x + 1)
    omega
  have ht := term_of h0
  rw [hs] at c1
  unfold waysV at c0
  have HP := Lib.hid (fun k => hF.put hx hs h0 k)
  clear hF hw
  generalize hY : P.getD x 0 = y at *
  generalize hT : term P x = T at *
  go_enter Try.func49, Try.ntmps49
  go_wp2_with (go_at_call 48; refine HC.out.mono ?_; rintro e w' ⟨rfl, k, rfl⟩)
  go_end0
  exact ⟨⟨_, rfl⟩, HP.out k⟩
end Go.Proofs.Ytepbmgbomdekaaa
