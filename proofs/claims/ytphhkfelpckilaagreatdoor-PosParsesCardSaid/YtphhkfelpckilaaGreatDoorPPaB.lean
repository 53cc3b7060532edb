/-
  The reference's reading of a text: a digit, a cell, the rights; and a position that is put together in a box, list by list.
  The reference's reading of a text, as a plain function: what it accepts is what Parse accepts, and both give the same.
-/
import Derived.Test.YtphhkfelpckilaaGreatDoorPRVa
import Derived.Test.YtphhkfelpckilaaGreatDoorDRow
import Derived.Test.YtphhkfelpckilaaGreatDoorPush
import Derived.Test.YtphhkfelpckilaaGreatDoorGPosM
import Derived.Test.YtphhkfelpckilaaGreatDoorDParse
import Derived.Test.YtphhkfelpckilaaGreatDoorTBack
import Derived.Test.YtphhkfelpckilaaGreatDoorGPos
namespace Go.Proofs.YtphhkfelpckilaaGreatDoor
open Go Go.RowKit Go.Lib Go.Sort

def digR (b : UInt8) : Int := if b.toNat < 48 ∨ 57 < b.toNat then 99 else (b.toNat : Int) - 48
def celR (b : UInt8) : Int := if 97 ≤ b.toNat ∧ b.toNat ≤ 122 then 2 + 2 * ((b.toNat : Int) - 97) else if 65 ≤ b.toNat ∧ b.toNat ≤ 90 then 1 + 2 * ((b.toNat : Int) - 65) else if b.toNat = 46 then 0 else 99
def rtR (l : List UInt8) : Int := l.foldl (fun a b => 10 * a + digR b) 0

def rfP (n k : Nat) (s : List UInt8) : PosS :=
  ⟨(s.take n).map celR, ((s.drop (n + 1)).take k).map digR, ((s.drop (n + k + 2)).take k).map digR, rtR ((s.drop (n + 2 * k + 3)).take (s.length - 2 - (n + 2 * k + 3))), digR (s[s.length - 1]?.getD 0)⟩
def winR (n k : Nat) (s : List UInt8) : Bool := decide (n + 2 * k + 6 ≤ s.length) && decide (s.length ≤ n + 2 * k + 7)
def rfOk (bc r : Nat) (ks : List Bool) (s : List UInt8) : Bool := winR bc ks.length s && parseOk bc r ks (rfP bc ks.length s) s

theorem parseOk_iff {bc r : Nat} {ks : List Bool} {p : PosS} {s : List UInt8} : parseOk bc r ks p s = true ↔ posB bc r ks p = true ∧ textP p = s := by
  unfold parseOk
  rw [Bool.and_eq_true, decide_eq_true_eq]
theorem digR_in (b : UInt8) : 0 ≤ digR b ∧ digR b ≤ 99 := by unfold digR; split <;> omega
theorem celR_in (b : UInt8) : 0 ≤ celR b ∧ celR b ≤ 99 := by unfold celR; repeat' split; all_goals omega
theorem rtR_app (l : List UInt8) (b : UInt8) : rtR (l ++ [b]) = 10 * rtR l + digR b := by unfold rtR; rw [List.foldl_append]; rfl
theorem rtR_in (l : List UInt8) (h : l.length ≤ 2) : 0 ≤ rtR l ∧ rtR l ≤ 1089 := by
  rcases l with _ | ⟨a, _ | ⟨b, _ | ⟨c, l⟩⟩⟩
  · decide
  · have := digR_in a
    simp only [rtR, List.foldl]; omega
  · have := digR_in a
    have := digR_in b
    simp only [rtR, List.foldl]; omega
  · simp at h

theorem digit_any (b : UInt8) (w : World) : Calls Tryz.prog 63 #[.int .u8 (b.toNat : Int)] w fun e w' => e = .returned (.int .i64 (digR b)) ∧ w' = w := by
  have hb : b.toNat < 256 := b.toNat_lt
  unfold digR
  generalize b.toNat = n at *
  have hw : IntKind.u8.wrap (n : Int) = (n : Int) := u8_id _ (by omega)
  by_cases h1 : n < 48
  · have t1 : decide ((n : Int) < 48) = true := by rw [decide_eq_true_eq]; omega
    have t2 : decide (n < 48) = true := by simpa using h1
    rw [if_pos (Or.inl h1)]
    go_enter Tryz.func63, Tryz.ntmps63
    go_wp2
    go_ret
    exact ⟨rfl, rfl⟩
  · have t1 : decide ((n : Int) < 48) = false := by rw [decide_eq_false_iff_not]; omega
    have t2 : decide (n < 48) = false := by simpa using h1
    by_cases h2 : 57 < n
    · have t3 : decide (57 < (n : Int)) = true := by rw [decide_eq_true_eq]; omega
      have t4 : decide (57 < n) = true := by simpa using h2
      rw [if_pos (Or.inr h2)]
      go_enter Tryz.func63, Tryz.ntmps63
      go_wp2
      go_ret
      exact ⟨rfl, rfl⟩
    · have t3 : decide (57 < (n : Int)) = false := by rw [decide_eq_false_iff_not]; omega
      have t4 : decide (57 < n) = false := by simpa using h2
      rw [if_neg (by omega)]
      have w1 : IntKind.u8.wrap ((n : Int) - 48) = (n : Int) - 48 := by have := u8_id (n - 48) (by omega); rwa [show ((n - 48 : Nat) : Int) = (n : Int) - 48 by omega] at this
      have w2 : IntKind.i64.wrap ((n : Int) - 48) = (n : Int) - 48 := IntWalk.i64_in _ (by omega)
      go_enter Tryz.func63, Tryz.ntmps63
      go_wp2
      go_ret
      exact ⟨rfl, rfl⟩

def upd {α : Type} (f : Nat → α) (i : Nat) (x : α) : Nat → α := fun j => if j = i then x else f j
theorem upd_same {α : Type} (f : Nat → α) (i : Nat) (x : α) : upd f i x i = x := by unfold upd; rw [if_pos rfl]
theorem upd_ne {α : Type} (f : Nat → α) {i j : Nat} (x : α) (h : j ≠ i) : upd f i x j = f j := by unfold upd; rw [if_neg h]

/-- A position that is put together: its box B, and three lists of the call's own, apart from each other. -/
structure PSt (h B : Nat) (v : Nat → Value) (L : Nat → List Int) (r d : Int) (W : World) : Prop where
  box : W.heap[B]? = some (.cells #[v 0, v 1, v 2, .int .i64 r, .int .i64 d] 32 (0, 0))
  lt : B < h
  own : ∀ i, i < 3 → OwnInts h W (v i) (L i)
  apart : ∀ i j, i < 3 → j < 3 → i ≠ j → ∀ k, some k = (v i).ownBlock → ¬ some k = (v j).ownBlock
theorem PSt.size {h B : Nat} {v : Nat → Value} {L : Nat → List Int} {r d : Int} {W : World} (s : PSt h B v L r d W) : B < W.heap.size := bx_lt s.box
theorem PSt.up {h B : Nat} {v : Nat → Value} {L : Nat → List Int} {r d : Int} {W W' : World} (s : PSt h B v L r d W) (hb : Below W.heap.size W W') : PSt h B v L r d W' :=
  ⟨(hb.block _ s.size).trans s.box, s.lt, fun i hi => (s.own i hi).alters (S := fun _ => False) (Alters.of_below hb) (fun _ h => h.elim), s.apart⟩
theorem PSt.cells {h B : Nat} {v : Nat → Value} {L : Nat → List Int} {r d : Int} {W : World} (s : PSt h B v L r d W) :
    W.cell? ⟨B, 0, none⟩ = some (v 0) ∧ W.cell? ⟨B, 1, none⟩ = some (v 1) ∧ W.cell? ⟨B, 2, none⟩ = some (v 2) ∧ W.cell? ⟨B, 3, none⟩ = some (.int .i64 r) ∧ W.cell? ⟨B, 4, none⟩ = some (.int .i64 d) ∧ ∀ j, W.frozen? ⟨B, j, none⟩ = false :=
  ⟨bx_cell s.box 0 rfl, bx_cell s.box 1 rfl, bx_cell s.box 2 rfl, bx_cell s.box 3 rfl, bx_cell s.box 4 rfl, fun j => bx_frozen s.box j⟩
/-- Behind the append to one of the three lists, ahead of the store. -/
theorem PSt.grown {h B : Nat} {v : Nat → Value} {L : Nat → List Int} {r d : Int} {W w5 : World} (s : PSt h B v L r d W) {i : Nat} (hi : i < 3) {tmp : Obj} (hg : (W.alloc tmp).grownBy w5 (v i).ownBlock) : w5.heap[B]? = some (.cells #[v 0, v 1, v 2, .int .i64 r, .int .i64 d] 32 (0, 0)) := by
  have hA := s.up ((Below.refl _ W).alloc (Nat.le_refl _) tmp)
  exact (hg.block B hA.size (fun e => by have := (World.ownsRow.lt (hA.own i hi) B e.symm).1; have := s.lt; omega)).trans hA.box
/-- Behind the store. -/
theorem PSt.push {h B : Nat} {v : Nat → Value} {L : Nat → List Int} {r d : Int} {W w5 : World} (s : PSt h B v L r d W) {i : Nat} (hi : i < 3) {tmp : Obj} {u : Value} {M : List Int} (ho : OwnInts h w5 u M) (hg : (W.alloc tmp).grownBy w5 (v i).ownBlock)
    (hat : u.ownBlock = (v i).ownBlock ∨ u.ownBlock = some (W.alloc tmp).heap.size) :
    PSt h B (upd v i u) (upd L i M) r d (w5.setCell ⟨B, i, none⟩ u) ∧ Below B W (w5.setCell ⟨B, i, none⟩ u) := by
  have hAB : Below W.heap.size W (W.alloc tmp) := (Below.refl _ W).alloc (Nat.le_refl _) tmp
  have hA := s.up hAB
  have hbox := s.grown hi hg
  have haB := alters_cell w5 B i u
  have hall : Alters (fun k => k = B ∨ some k = (v i).ownBlock) W (w5.setCell ⟨B, i, none⟩ u) :=
    ((Alters.of_below hAB).trans ((Alters.of_grown hg).mono (fun _ _ h => .inr h))).trans (haB.mono (fun _ _ h => .inl h))
  have hown : ∀ j, j < 3 → ∀ k, some k = (v j).ownBlock → h ≤ k ∧ k < W.heap.size := fun j hj k hk => World.ownsRow.lt (s.own j hj) k hk.symm
  refine ⟨⟨?_, s.lt, fun j hj => ?_, fun a b ha hb hab k hk hk2 => ?_⟩, hall.below (Nat.le_of_lt s.size) (fun k hk => ?_)⟩
  · have := bx_set hbox i u
    rw [this]
    have hc : i = 0 ∨ i = 1 ∨ i = 2 := by omega
    rcases hc with rfl | rfl | rfl <;> simp [upd]
  · by_cases e : j = i
    · subst e
      rw [upd_same, upd_same]
      exact ho.alters haB (fun k hk hv => by have hk : k = B := hk; have := (World.ownsRow.lt ho k hv.symm).1; have := s.lt; omega)
    · rw [upd_ne _ _ e, upd_ne _ _ e]
      refine (s.own j hj).alters hall (fun k hk hv => ?_)
      rcases hk with rfl | hk
      · have := (hown j hj _ hv).1; have := s.lt; omega
      · exact s.apart i j hi hj (Ne.symm e) k hk hv
  · have hnew : ∀ c, c < 3 → c ≠ i → ∀ k, some k = u.ownBlock → ¬ some k = (v c).ownBlock := by
      intro c hc hci k hk hk2
      rcases hat with e | e
      · rw [e] at hk; exact s.apart i c hi hc (Ne.symm hci) k hk hk2
      · rw [e] at hk
        have h1 := (hown c hc k hk2).2
        have h2 : k = (W.alloc tmp).heap.size := Option.some.inj hk
        have h3 := hAB.size
        omega
    by_cases ea : a = i
    · subst ea
      rw [upd_same] at hk
      rw [upd_ne _ _ (Ne.symm hab)] at hk2
      exact hnew b hb (Ne.symm hab) k hk hk2
    · by_cases eb : b = i
      · subst eb
        rw [upd_same] at hk2
        rw [upd_ne _ _ ea] at hk
        exact hnew a ha ea k hk2 hk
      · rw [upd_ne _ _ ea] at hk
        rw [upd_ne _ _ eb] at hk2
        exact s.apart a b ha hb hab k hk hk2
  · rcases hk with rfl | hk
    · exact Nat.le_refl _
    · have := (hown i hi k hk).1; have := s.lt; omega
theorem PSt.rights {h B : Nat} {v : Nat → Value} {L : Nat → List Int} {r d : Int} {W : World} (s : PSt h B v L r d W) (x : Int) : PSt h B v L x d (W.setCell ⟨B, 3, none⟩ (.int .i64 x)) ∧ Below B W (W.setCell ⟨B, 3, none⟩ (.int .i64 x)) := by
  have haB := alters_cell W B 3 (.int .i64 x)
  refine ⟨⟨?_, s.lt, fun j hj => (s.own j hj).alters haB (fun k hk hv => by have hk : k = B := hk; have := (World.ownsRow.lt (s.own j hj) k hv.symm).1; have := s.lt; omega), s.apart⟩, haB.below (Nat.le_of_lt s.size) (fun k hk => Nat.le_of_eq (Eq.symm hk))⟩
  rw [bx_set s.box 3]
  simp
end Go.Proofs.YtphhkfelpckilaaGreatDoor

namespace Go.Proofs.YtphhkfelpckilaaGreatDoor
open Go Go.RowKit Go.Lib Go.Sort

theorem cel_tab : ∀ n : Fin 13, celR (contS[(n : Nat)]?.getD 0) = (n : Nat) := by decide
theorem dig_tab : ∀ n : Fin 9, digR (digS[(n : Nat)]?.getD 0) = (n : Nat) := by decide
theorem signS_one {s : List UInt8} {x : Int} (h0 : 0 ≤ x) (h1 : x < s.length) : signS s x = [s[x.toNat]?.getD 0] := by unfold signS; rw [if_pos ⟨h0, h1⟩]
theorem signs_map {s : List UInt8} : ∀ {l : List Int}, (∀ x ∈ l, 0 ≤ x ∧ x < s.length) → signsS s l = l.map fun x => s[x.toNat]?.getD 0
  | [], _ => rfl
  | x :: l, h => by
    rw [signS_cons, signs_map (fun y hy => h y (by simp [hy])), signS_one (h x (by simp)).1 (h x (by simp)).2]; rfl
theorem signs_f {s : List UInt8} {f : UInt8 → Int} (hT : ∀ n : Nat, n < s.length → f (s[n]?.getD 0) = (n : Int)) {l : List Int} (h : ∀ x ∈ l, 0 ≤ x ∧ x < s.length) : (signsS s l).map f = l := by
  rw [signs_map h, List.map_map]
  refine (List.map_congr_left fun x hx => ?_).trans (List.map_id l)
  have := h x hx
  show f (s[x.toNat]?.getD 0) = x
  rw [hT x.toNat (by omega)]
  omega
theorem signs_length {s : List UInt8} {l : List Int} (h : ∀ x ∈ l, 0 ≤ x ∧ x < s.length) : (signsS s l).length = l.length := by rw [signs_map h, List.length_map]
theorem cel_f : ∀ n : Nat, n < contS.length → celR (contS[n]?.getD 0) = (n : Int) := fun n h => cel_tab ⟨n, h⟩
theorem dig_f : ∀ n : Nat, n < digS.length → digR (digS[n]?.getD 0) = (n : Int) := fun n h => dig_tab ⟨n, h⟩

/-- The reference reads the text of a position as this position. -/
theorem rf_text {p : PosS} (hp : PosLow p) {n k : Nat} (hn : p.cells.length = n) (h0 : p.h0.length = k) (h1 : p.h1.length = k) : rfP n k (textP p) = p ∧ (textP p).length = n + 2 * k + 6 := by
  have m0 : ∀ x ∈ p.cells, 0 ≤ x ∧ x < contS.length := fun x hx => by have := all_mem hp.cells x hx; exact ⟨this.1, by show x < 13; omega⟩
  have m1 : ∀ x ∈ p.h0, 0 ≤ x ∧ x < digS.length := fun x hx => by have := all_mem hp.h0 x hx; exact ⟨this.1, by show x < 9; omega⟩
  have m2 : ∀ x ∈ p.h1, 0 ≤ x ∧ x < digS.length := fun x hx => by have := all_mem hp.h1 x hx; exact ⟨this.1, by show x < 9; omega⟩
  have c0 := signs_f cel_f m0
  have c1 := signs_f dig_f m1
  have c2 := signs_f dig_f m2
  have l0 := signs_length m0
  have l1 := signs_length m1
  have l2 := signs_length m2
  have hr := hp.rights
  have hs := hp.side
  have c3 : digR (digS[p.rights.toNat]?.getD 0) = p.rights := by rw [dig_f _ (by show _ < 9; omega)]; omega
  have c4 : digR (digS[p.side.toNat]?.getD 0) = p.side := by rw [dig_f _ (by show _ < 9; omega)]; omega
  have hf := text_form hp
  rw [signS_one hr.1 (by show p.rights < 9; omega), signS_one hs.1 (by show p.side < 9; omega)] at hf
  generalize signsS contS p.cells = A at *
  generalize signsS digS p.h0 = B at *
  generalize signsS digS p.h1 = C at *
  generalize digS[p.rights.toNat]?.getD 0 = x at *
  generalize digS[p.side.toNat]?.getD 0 = y at *
  rw [hf]
  have la : A.length = n := by omega
  have lb : B.length = k := by omega
  have lc : C.length = k := by omega
  have hlen : (A ++ 47 :: (B ++ 47 :: (C ++ 47 :: ([x] ++ 47 :: [y])))).length = n + 2 * k + 6 := by simp; omega
  have d1 : (A ++ 47 :: (B ++ 47 :: (C ++ 47 :: ([x] ++ 47 :: [y])))).drop (n + 1) = B ++ 47 :: (C ++ 47 :: ([x] ++ 47 :: [y])) := by
    rw [← la, ← List.drop_drop, List.drop_left]; rfl
  have d2 : (A ++ 47 :: (B ++ 47 :: (C ++ 47 :: ([x] ++ 47 :: [y])))).drop (n + k + 2) = C ++ 47 :: ([x] ++ 47 :: [y]) := by
    rw [show n + k + 2 = (n + 1) + (k + 1) by omega, ← List.drop_drop, d1, ← lb, ← List.drop_drop, List.drop_left]; rfl
  have d3 : (A ++ 47 :: (B ++ 47 :: (C ++ 47 :: ([x] ++ 47 :: [y])))).drop (n + 2 * k + 3) = [x] ++ 47 :: [y] := by
    rw [show n + 2 * k + 3 = (n + k + 2) + (k + 1) by omega, ← List.drop_drop, d2, ← lc, ← List.drop_drop, List.drop_left]; rfl
  have d4 : (A ++ 47 :: (B ++ 47 :: (C ++ 47 :: ([x] ++ 47 :: [y]))))[n + 2 * k + 6 - 1]?.getD 0 = y := by
    rw [show n + 2 * k + 6 - 1 = (n + 2 * k + 3) + 2 by omega, ← List.getElem?_drop, d3]; rfl
  have t0 : (A ++ 47 :: (B ++ 47 :: (C ++ 47 :: ([x] ++ 47 :: [y])))).take n = A := by rw [← la, List.take_left]
  refine ⟨?_, hlen⟩
  unfold rfP
  rw [hlen, d1, d2, d3, d4, t0]
  rw [show (B ++ 47 :: (C ++ 47 :: ([x] ++ 47 :: [y]))).take k = B by rw [← lb, List.take_left]]
  rw [show (C ++ 47 :: ([x] ++ 47 :: [y])).take k = C by rw [← lc, List.take_left]]
  rw [show n + 2 * k + 6 - 2 - (n + 2 * k + 3) = 1 by omega]
  rw [show rtR (([x] ++ 47 :: [y]).take 1) = p.rights by show 10 * 0 + digR x = p.rights; rw [c3]; omega]
  rw [c0, c1, c2, c4]

/-- The two readings agree. -/
theorem rf_agrees {bc r : Nat} {ks : List Bool} (s : List UInt8) (hbc : bc ≤ 9) (hr : r ≤ 2) (hks : ks.length ≤ 2) :
    (if rfOk bc r ks s = true then rfP bc ks.length s else posZero) = parsedP bc r ks (readP s) s ∧ (if rfOk bc r ks s = true then (0 : Int) else 3) = parsedE bc r ks (readP s) s := by
  have hiff : rfOk bc r ks s = true → readP s = rfP bc ks.length s ∧ parseOk bc r ks (readP s) s = true := by
    intro h
    unfold rfOk at h
    rw [Bool.and_eq_true] at h
    obtain ⟨h1, h2⟩ := parseOk_iff.1 h.2
    have hl := (posB_all h1).low hbc hr hks
    have : readP s = rfP bc ks.length s := by
      have := read_text hl
      rw [h2] at this
      exact this
    exact ⟨this, by rw [this]; exact h.2⟩
  have hback : parseOk bc r ks (readP s) s = true → rfOk bc r ks s = true := by
    intro h
    obtain ⟨h1, h2⟩ := parseOk_iff.1 h
    have ha := posB_all h1
    have hl := ha.low hbc hr hks
    obtain ⟨h3, h4⟩ := rf_text hl ha.len (hand_len ha.h0) (hand_len ha.h1)
    rw [h2] at h3 h4
    unfold rfOk
    rw [Bool.and_eq_true]
    refine ⟨?_, by rw [h3]; exact h⟩
    unfold winR
    rw [Bool.and_eq_true, decide_eq_true_eq, decide_eq_true_eq]
    omega
  unfold parsedP parsedE
  cases hq : rfOk bc r ks s with
  | true =>
    obtain ⟨h1, h2⟩ := hiff hq
    rw [if_pos rfl, if_pos h2, if_pos rfl, if_pos h2, h1]
    exact ⟨rfl, rfl⟩
  | false =>
    have h2 : ¬ parseOk bc r ks (readP s) s = true := fun h => by rw [hback h] at hq; cases hq
    rw [if_neg (by simp), if_neg h2, if_neg (by simp), if_neg h2]
    exact ⟨rfl, rfl⟩
end Go.Proofs.YtphhkfelpckilaaGreatDoor
