/-
  Numbers of men: all of them, with the empty cells, are all cells; a man more is one more of its kind.
  Numbers of men as lists of the call's own; a copy of a list by an append to an empty one.
-/
import Derived.Test.YtphhkfelpckilaaGreatDoorDCount
import Derived.Test.YtphhkfelpckilaaGreatDoorGPos
namespace Go.Proofs.YtphhkfelpckilaaGreatDoor
open Go Go.RowKit

theorem sum_bump : ∀ (l : List Int) (i : Nat), i < l.length → (l.set i (l[i]?.getD 0 + 1)).sum = l.sum + 1
  | x :: l, 0, _ => by simp; omega
  | x :: l, i + 1, h => by
    have := sum_bump l i (by simpa using h)
    simp only [List.set_cons_succ, List.sum_cons, List.getElem?_cons_succ]
    omega
  | [], _, h => by simp at h
theorem cStep_sum (side : Int) (acc : List Int) (x : Int) (h : manS x = side → 0 ≤ manK x ∧ manK x < acc.length) : (cStep side acc x).sum = acc.sum + if manS x = side then 1 else 0 := by
  unfold cStep
  by_cases e : manS x = side
  · have := h e
    rw [if_pos ⟨e, this⟩, if_pos e, sum_bump acc _ (by omega)]
  · rw [if_neg (fun hc => e hc.1), if_neg e]; omega
theorem fold_sum (side : Int) : ∀ (l acc : List Int), (∀ x ∈ l, manS x = side → 0 ≤ manK x ∧ manK x < acc.length) → (l.foldl (cStep side) acc).sum = acc.sum + (l.countP (fun x => decide (manS x = side)) : Nat)
  | [], acc, _ => by simp
  | x :: l, acc, h => by
    have h1 := cStep_sum side acc x (h x (by simp))
    have h2 := fold_sum side l (cStep side acc x) (fun y hy => by rw [cStep_len]; exact h y (by simp [hy]))
    rw [List.foldl_cons, h2, h1, List.countP_cons]
    by_cases e : manS x = side
    · simp [e]; omega
    · simp [e]
theorem zeros_sum : ∀ n : Nat, (List.replicate n (0 : Int)).sum = 0
  | 0 => rfl
  | n + 1 => by rw [List.replicate_succ, List.sum_cons, zeros_sum n]; rfl
theorem three_ways : ∀ (l : List Int), (∀ x ∈ l, 0 ≤ x ∧ x ≤ 12) → l.countP (fun x => decide (manS x = 0)) + l.countP (fun x => decide (manS x = 1)) + l.countP (fun x => decide (x = 0)) = l.length
  | [], _ => rfl
  | x :: l, h => by
    have ih := three_ways l (fun y hy => h y (by simp [hy]))
    have hx := h x (by simp)
    rw [List.countP_cons, List.countP_cons, List.countP_cons, List.length_cons]
    by_cases e : x = 0
    · have h0 : manS x = -1 := by unfold manS; rw [if_neg (by omega)]
      subst e
      rw [h0]
      simp
      omega
    · have h0 : manS x = (x - 1) % 2 := by unfold manS; rw [if_pos (by omega)]
      have h1 : (x - 1) % 2 = 0 ∨ (x - 1) % 2 = 1 := by omega
      rcases h1 with h1 | h1
      · simp [h0, h1, e]; omega
      · simp [h0, h1, e]; omega
theorem all_cells {nk : Nat} {l : List Int} (hn : nk ≤ 6) (h : ∀ x ∈ l, 0 ≤ x ∧ x ≤ 2 * (nk : Int)) : (countTo nk 0 l).sum + (countTo nk 1 l).sum + (l.countP (fun x => decide (x = 0)) : Nat) = l.length := by
  have hk : ∀ (side : Int), 0 ≤ side → ∀ x ∈ l, manS x = side → 0 ≤ manK x ∧ manK x < (List.replicate nk (0 : Int)).length := by
    intro side hs x hx he
    have := h x hx
    by_cases e : x = 0
    · have h0 : manS x = -1 := by unfold manS; rw [if_neg (by omega)]
      omega
    · have h0 : manK x = (x - 1) / 2 := by unfold manK; rw [if_pos (by omega)]
      rw [h0, List.length_replicate]
      omega
  unfold countTo
  rw [fold_sum 0 l _ (hk 0 (by omega)), fold_sum 1 l _ (hk 1 (by omega)), zeros_sum]
  have := three_ways l (fun x hx => by have := h x hx; omega)
  omega
theorem fold_get (side : Int) : ∀ (l acc : List Int) (k : Nat), k < acc.length → (l.foldl (cStep side) acc)[k]?.getD 0 = acc[k]?.getD 0 + (l.countP (fun x => decide (manS x = side ∧ manK x = (k : Int))) : Nat)
  | [], acc, k, _ => by simp
  | x :: l, acc, k, h => by
    have h2 := fold_get side l (cStep side acc x) k (by rw [cStep_len]; exact h)
    rw [List.foldl_cons, h2, List.countP_cons]
    have h1 : (cStep side acc x)[k]?.getD 0 = acc[k]?.getD 0 + if manS x = side ∧ manK x = (k : Int) then 1 else 0 := by
      unfold cStep
      by_cases e : manS x = side ∧ manK x = (k : Int)
      · rw [if_pos ⟨e.1, by omega, by omega⟩, if_pos e, e.2]
        simp [h]
      · rw [if_neg e]
        split
        · rename_i hc
          have hne : ¬ (manK x).toNat = k := fun hk => e ⟨hc.1, by omega⟩
          rw [List.getElem?_set_ne hne]; omega
        · omega
    rw [h1]
    by_cases e : manS x = side ∧ manK x = (k : Int)
    · simp [e]; omega
    · simp [e]
theorem count_get (side : Int) (l : List Int) {nk k : Nat} (hk : k < nk) : (countTo nk side l)[k]?.getD 0 = (l.countP (fun x => decide (manS x = side ∧ manK x = (k : Int))) : Nat) := by
  unfold countTo
  rw [fold_get side l _ k (by simpa using hk)]
  simp [hk]
theorem count_in (side : Int) (l : List Int) {nk k : Nat} (hk : k < nk) : 0 ≤ (countTo nk side l)[k]?.getD 0 ∧ (countTo nk side l)[k]?.getD 0 ≤ l.length := by
  rw [count_get side l hk]
  have := List.countP_le_length (p := fun x => decide (manS x = side ∧ manK x = (k : Int))) (l := l)
  omega
theorem countP_put (P : Int → Bool) : ∀ (l : List Int) (i : Nat) (v : Int), i < l.length → P (l[i]?.getD 0) = false → (l.set i v).countP P = l.countP P + if P v = true then 1 else 0
  | x :: l, 0, v, _, h => by
    have h' : P x = false := by simpa using h
    simp [List.countP_cons, h']
  | x :: l, i + 1, v, hi, h => by
    have := countP_put P l i v (by simpa using hi) (by simpa using h)
    rw [List.set_cons_succ, List.countP_cons, List.countP_cons, this]
    omega
  | [], _, _, hi, _ => by simp at hi
/-- A man more. -/
theorem count_put {nk at_ : Nat} {l : List Int} {s side kind : Nat} {v : Int} (hat : at_ < l.length) (h0 : l[at_]?.getD 0 = 0) (hv : v = 1 + 2 * (kind : Int) + (side : Int)) (hside : side < 2) (hkind : kind < 6) {k : Nat} (hk : k < nk) :
    (countTo nk (s : Int) (l.set at_ v))[k]?.getD 0 = (countTo nk (s : Int) l)[k]?.getD 0 + if s = side ∧ k = kind then 1 else 0 := by
  have hS : manS v = (side : Int) := by unfold manS; rw [if_pos (by omega)]; omega
  have hK : manK v = (kind : Int) := by unfold manK; rw [if_pos (by omega)]; omega
  rw [count_get _ _ hk, count_get _ _ hk, countP_put _ l at_ v hat (by
    have : manS 0 = -1 := by unfold manS; rw [if_neg (by omega)]
    rw [h0, this]; simp)]
  rw [hS, hK]
  by_cases e : s = side ∧ k = kind
  · rw [if_pos e, if_pos (by simp; omega)]; omega
  · rw [if_neg e, if_neg (by simp; omega)]; omega
theorem take_sum_succ (l : List Int) (k : Nat) : (l.take (k + 1)).sum = (l.take k).sum + l[k]?.getD 0 := by
  rw [List.take_add_one, List.sum_append]
  cases l[k]? <;> simp
theorem take_sum_in {l : List Int} (h : ∀ i : Nat, 0 ≤ l[i]?.getD 0 ∧ l[i]?.getD 0 ≤ 9) : ∀ k : Nat, 0 ≤ (l.take k).sum ∧ (l.take k).sum ≤ 9 * (k : Int)
  | 0 => by simp
  | k + 1 => by
    have h1 := take_sum_in h k
    have h2 := h k
    rw [take_sum_succ]
    omega
theorem countP_take_succ (P : Int → Bool) (l : List Int) {k : Nat} (hk : k < l.length) : (l.take (k + 1)).countP P = (l.take k).countP P + if P (l[k]?.getD 0) = true then 1 else 0 := by
  rw [List.take_add_one, List.countP_append, List.getElem?_eq_getElem hk]
  simp [List.countP_cons]
theorem countTo_in (side : Int) {l : List Int} (hl : l.length ≤ 9) (nk : Nat) : ∀ i : Nat, 0 ≤ (countTo nk side l)[i]?.getD 0 ∧ (countTo nk side l)[i]?.getD 0 ≤ 9 := by
  intro i
  by_cases hi : i < nk
  · have := count_in side l hi; omega
  · rw [List.getElem?_eq_none (by rw [countTo_len]; omega)]; simp
end Go.Proofs.YtphhkfelpckilaaGreatDoor
namespace Go.Proofs.YtphhkfelpckilaaGreatDoor
open Go Go.RowKit

theorem own_ints {h : Nat} {W : World} {g k c : Nat} {l : List Int} (ho : OwnInts h W (.slice (some ⟨g, 0, none⟩) k c) l) : Ints W.heap.size W (some ⟨g, 0, none⟩) l := by
  obtain ⟨a, cap, e, hI⟩ := ho.ints
  cases e
  exact hI
theorem OwnInts.up2 {n : Nat} {W W' : World} {v : Value} {l : List Int} (h : OwnInts n W v l) (hb : Below W.heap.size W W') : OwnInts n W' v l := h.alters (S := fun _ => False) (Alters.of_below hb) (fun _ h => h.elim)
theorem count_some (nk : Nat) (side : Int) (v0 vn vt vr vm vc vb ve : Value) (p : PosS) (ak b b0 b1 : Option Addr) (ck c c0 c1 N : Nat) (w : World) (h1 : 1 ≤ nk) (hnk : nk ≤ 1000) (hp : PosFit p) (hN : N ≤ w.heap.size) (hP : PosIn N w b b0 b1 p) :
    Calls Tryz.prog 29 #[.agg #[v0, vn, vt, .slice ak nk ck, vr, vm, vc, vb, ve], .agg #[.slice b p.cells.length c, .slice b0 p.h0.length c0, .slice b1 p.h1.length c1, .int .i64 p.rights, .int .i64 p.side], .int .i64 side] w fun e w' =>
      ∃ g cap, e = .returned (.slice (some ⟨g, 0, none⟩) nk cap) ∧ OwnInts w.heap.size w' (.slice (some ⟨g, 0, none⟩) nk cap) (countTo nk side p.cells) ∧ Below w.heap.size w w' := by
  refine (count_any nk side v0 vn vt vr vm vc vb ve p ak b b0 b1 ck c c0 c1 N w hnk hp hN hP).mono ?_
  rintro e w' ⟨v, rfl, hO, hb⟩
  rcases OwnInts.form hO with ⟨_, h0⟩ | ⟨g, cap, rfl, _, _⟩
  · have := countTo_len nk side p.cells
    rw [h0] at this
    simp at this; omega
  · rw [countTo_len] at hO ⊢
    exact ⟨g, cap, rfl, hO, hb⟩

/-- 'append(e, l...)', e empty and the call's own. -/
theorem wpList_pushAll {w : World} {ops : Array Oper} {rest : List Oper} {o : Oper} {a : Act} {Q : Exit → Act → World → Prop} (hgd : o.guard = none) (s y : Operand)
    (ho : o.op = .call { callee := .builtin .append, args := #[s, y], argTypes := #[29, 29] }) (n E : Nat) (hs : a.eval s = .slice (some ⟨E, 0, none⟩) 0 0) (h : OwnInts n w (.slice (some ⟨E, 0, none⟩) 0 0) []) (hn : n ≤ w.heap.size)
    (b : Nat) (l : List Int) (c : Nat) (hy : a.eval y = .slice (some ⟨b, 0, none⟩) l.length c) (hl : 1 ≤ l.length) (hl2 : l.length ≤ 1000) (hx : ∀ j, j < l.length → w.cell? ⟨b, j, none⟩ = some (.int .i64 (l[j]?.getD 0)))
    (hK : ∀ g cap w', OwnInts n w' (.slice (some ⟨g, 0, none⟩) l.length cap) l → w.grownBy w' (some E) → (g = E ∨ g = w.heap.size) → wpList Tryz.prog ops Q rest (a.put o.dst (.slice (some ⟨g, 0, none⟩) l.length cap)) w') :
    wpList Tryz.prog ops Q (o :: rest) a w :=
  wpList_plain hgd fun K hK' => by
    obtain ⟨i0, hi, hz0, hz1, hz2⟩ := info_parts info_intP
    obtain ⟨v', w', hr, h2, h3, _, h5⟩ := run_append_own_at (P := Tryz.prog) w n 29 o.type 3 i0 (.int .i64 0) 1 8 Tryz.underlying29 hi hz0 hz1 hz2 rfl (by decide) (.slice (some ⟨E, 0, none⟩) 0 0) 0 [] h ⟨b, 0, none⟩ l.length c (l.map (Value.int .i64)) (by simp)
      (by intro j u hj
          have hj' : j < l.length := by have := (List.getElem?_eq_some_iff.1 hj).1; simpa using this
          have e : (⟨b, 0, none⟩ : Addr).add j = ⟨b, j, none⟩ := by by_cases h : j = 0 <;> simp [Addr.add, h]
          rw [e, hx j hj', ← hj]
          simp [hj']) (by intro u hu; simp only [List.mem_map] at hu; obtain ⟨z, _, rfl⟩ := hu; rfl) (by unfold maxLen; omega) (by omega) hn
    rw [Nat.zero_add, List.nil_append] at h2
    obtain ⟨g, cap, hv⟩ : ∃ g cap, v' = .slice (some ⟨g, 0, none⟩) l.length cap := by
      rcases h2.2 with ⟨_, h0⟩ | ⟨g, cap, _, hv, _⟩
      · omega
      · exact ⟨g, cap, hv⟩
    subst hv
    have h9 := hK' _ _ (hK g cap w' h2 h3 (by
      rcases h5 with h | h
      · left; simpa [Value.ownBlock] using h
      · right; simpa [Value.ownBlock] using h))
    unfold Oper.wp
    simp [execOp, ho, resolve, invoke, builtin, hs, hy, hr, Result.andThen]
    exact h9
end Go.Proofs.YtphhkfelpckilaaGreatDoor
