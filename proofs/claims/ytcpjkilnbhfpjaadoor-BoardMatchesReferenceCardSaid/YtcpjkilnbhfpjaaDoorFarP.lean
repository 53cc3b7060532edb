/-
  Far as lists: what is true of the distances.
-/
import Derived.Test.YtcpjkilnbhfpjaaDoorFar
import Derived.Test.YtcpjkilnbhfpjaaDoorNearP
import Derived.Test.YtcpjkilnbhfpjaaDoorDistP
namespace Go.Proofs.YtcpjkilnbhfpjaaDoor
open Go Go.RowKit

theorem farTo_len (B : Brd) (n k : Nat) : (farTo B n k).length = n := by
  induction k with
  | zero => simp [farTo]
  | succ k ih => simp [farTo, ih]
theorem farTo_get (B : Brd) (n : Nat) : ∀ k, k ≤ n → ∀ j, j < n → (farTo B n k)[j]?.getD [] = if j < k then distS (stepsS B) n j else []
  | 0, _, j, hj => by simp [farTo, hj]
  | k + 1, h, j, hj => by
    have ih := farTo_get B n k (by omega) j hj
    unfold farTo
    by_cases e : k = j
    · subst e
      rw [List.getElem?_set_self (by rw [farTo_len]; omega), if_pos (by omega), Option.getD_some]
    · rw [List.getElem?_set_ne e, ih]
      by_cases hk : j < k
      · rw [if_pos hk, if_pos (by omega)]
      · rw [if_neg hk, if_neg (by omega)]
theorem farS_len {B : Brd} {n : Nat} (hn : B.cells = n) : (farS B).length = n := by
  unfold farS; rw [hn]; exact farTo_len B n n
theorem farS_get {B : Brd} {n : Nat} (hn : B.cells = n) {a : Nat} (ha : a < n) : (farS B)[a]?.getD [] = distS (stepsS B) n a := by
  unfold farS
  rw [hn]
  simp only [Int.toNat_natCast]
  rw [farTo_get B n n (Nat.le_refl _) a ha, if_pos ha]

theorem stepsS_lt {B : Brd} (hB : B.Ok) {n : Nat} (hn : B.cells = n) : ∀ x : Nat, x < n → ∀ z ∈ stepsS B x, 0 ≤ z ∧ z < n := fun x _ z hz => by
  have := stepsS_in hB x z hz
  omega

theorem mem_nearS {B : Brd} (hB : B.Ok) {k c : Int} : c ∈ nearS B k ↔ c ≠ k ∧ c ∈ stepsS B k := by
  rw [nearS_eq hB]
  unfold nearL
  simp only [List.mem_filter, List.mem_map, List.mem_range, Bool.and_eq_true, mem_stepsS]
  refine ⟨fun ⟨⟨x, hx, e⟩, h1, h2⟩ => ⟨by simpa using h1, by omega, h2⟩, fun ⟨h1, h0, h2⟩ => ⟨⟨c.toNat, ?_, by omega⟩, by simpa using h1, h2⟩⟩
  have h3 := stepsS_in hB k c ((mem_stepsS B k c).2 ⟨h0, h2⟩)
  have h4 := hB.lo
  omega

/-- The least distance of the first k cells that have c in Near, or -1. -/
def bestTo (B : Brd) (F : List Int) (c : Int) : Nat → Int
  | 0 => -1
  | k + 1 => if 0 ≤ F[k]?.getD 0 ∧ c ∈ nearS B k ∧ (bestTo B F c k < 0 ∨ F[k]?.getD 0 < bestTo B F c k) then F[k]?.getD 0 else bestTo B F c k

theorem best_ok (B : Brd) (F : List Int) (c : Int) (k : Nat) : (bestTo B F c k = -1 ∧ ∀ j, j < k → ¬ (0 ≤ F[j]?.getD 0 ∧ c ∈ nearS B j)) ∨
    (0 ≤ bestTo B F c k ∧ (∃ j, j < k ∧ c ∈ nearS B j ∧ F[j]?.getD 0 = bestTo B F c k) ∧ ∀ j, j < k → 0 ≤ F[j]?.getD 0 → c ∈ nearS B j → bestTo B F c k ≤ F[j]?.getD 0) := by
  induction k with
  | zero => exact .inl ⟨rfl, fun j hj => by omega⟩
  | succ k ih =>
    unfold bestTo
    by_cases h : 0 ≤ F[k]?.getD 0 ∧ c ∈ nearS B k ∧ (bestTo B F c k < 0 ∨ F[k]?.getD 0 < bestTo B F c k)
    · rw [if_pos h]
      right
      refine ⟨h.1, ⟨k, by omega, h.2.1, rfl⟩, fun j hj h0 hm => ?_⟩
      by_cases e : j = k
      · rw [e]; exact Int.le_refl _
      · rcases ih with ⟨i1, i2⟩ | ⟨i1, i2, i3⟩
        · exact absurd ⟨h0, hm⟩ (i2 j (by omega))
        · have := i3 j (by omega) h0 hm
          have := h.2.2
          omega
    · rw [if_neg h]
      rcases ih with ⟨i1, i2⟩ | ⟨i1, i2, i3⟩
      · left
        refine ⟨i1, fun j hj hm => ?_⟩
        by_cases e : j = k
        · rw [e] at hm
          exact h ⟨hm.1, hm.2, .inl (by omega)⟩
        · exact i2 j (by omega) hm
      · right
        obtain ⟨j0, hj0, hm0, he0⟩ := i2
        refine ⟨i1, ⟨j0, by omega, hm0, he0⟩, fun j hj h0 hm => ?_⟩
        by_cases e : j = k
        · rw [e] at h0 hm ⊢
          exact Int.not_lt.1 (fun hl => h ⟨h0, hm, .inr hl⟩)
        · exact i3 j (by omega) h0 hm

theorem steps_last {adj : Int → List Int} {a : Int} {k : Nat} {c : Int} (h : Steps adj a k c) : (k = 0 ∧ c = a) ∨ ∃ m x, k = m + 1 ∧ Steps adj a m x ∧ c ∈ adj x := by
  cases h with
  | here => exact .inl ⟨rfl, rfl⟩
  | on h1 h2 => exact .inr ⟨_, _, rfl, h1, h2⟩

/-- What the law asks of two different cells. -/
theorem far_law {B : Brd} (hB : B.Ok) {n : Nat} (hn : B.cells = n) {a c : Nat} (ha : a < n) (hc : c < n) (hac : a ≠ c) :
    (0 ≤ bestTo B (distS (stepsS B) n a) c n → (distS (stepsS B) n a)[c]?.getD 0 = bestTo B (distS (stepsS B) n a) c n + 1) ∧ (bestTo B (distS (stepsS B) n a) c n < 0 → (distS (stepsS B) n a)[c]?.getD 0 = -1) ∧
      ((distS (stepsS B) n a)[c]?.getD 0 = 1 ↔ (c : Int) ∈ nearS B a) := by
  obtain ⟨h1, h2, h3, h4⟩ := dist_spec (fr := a) ha (stepsS_lt hB hn)
  have hb := best_ok B (distS (stepsS B) n a) c n
  generalize distS (stepsS B) n a = F at *
  have hback : 0 ≤ F[c]?.getD 0 → ∃ x : Nat, x < n ∧ (c : Int) ∈ nearS B x ∧ 0 ≤ F[x]?.getD 0 ∧ F[x]?.getD 0 + 1 ≤ F[c]?.getD 0 := by
    intro h0
    rcases steps_last (h2 c hc h0) with ⟨_, e⟩ | ⟨m, x, hm, hs, hx⟩
    · exact absurd (by omega) hac
    · have hsx := h3 m x hs
      obtain ⟨x', rfl⟩ := Int.eq_ofNat_of_zero_le hsx.1
      simp only [Int.toNat_natCast] at hsx
      refine ⟨x', by omega, (mem_nearS hB).2 ⟨fun e => ?_, hx⟩, hsx.2.2.1, by omega⟩
      have : c = x' := by omega
      rw [this] at hm
      omega
  have hforth : ∀ x : Nat, x < n → (c : Int) ∈ nearS B x → 0 ≤ F[x]?.getD 0 → 0 ≤ F[c]?.getD 0 ∧ F[c]?.getD 0 ≤ F[x]?.getD 0 + 1 := by
    intro x hx hm h0
    have := h3 _ _ (.on (h2 x hx h0) ((mem_nearS hB).1 hm).2)
    simp only [Int.toNat_natCast] at this
    omega
  refine ⟨?_, ?_, ?_⟩
  · intro h0
    rcases hb with ⟨b1, b2⟩ | ⟨b1, ⟨j0, hj0, hm0, he0⟩, b3⟩
    · omega
    · have f1 := hforth j0 hj0 hm0 (by omega)
      obtain ⟨x, hx, hm, hx0, hx1⟩ := hback f1.1
      have := b3 x hx hx0 hm
      omega
  · intro h0
    rcases hb with ⟨b1, b2⟩ | ⟨b1, _⟩
    · have h5 := h1 c hc
      by_cases h6 : 0 ≤ F[c]?.getD 0
      · obtain ⟨x, hx, hm, hx0, _⟩ := hback h6
        exact absurd ⟨hx0, hm⟩ (b2 x hx)
      · omega
    · omega
  · refine ⟨fun h => ?_, fun h => ?_⟩
    · have hs := h2 c hc (by omega)
      rw [h] at hs
      rcases steps_last hs with ⟨e, _⟩ | ⟨m, x, hm, hs, hx⟩
      · simp at e
      · have : m = 0 := by simp at hm; omega
        subst this
        rcases steps_last hs with ⟨_, e⟩ | ⟨_, _, e, _⟩
        · rw [e] at hx
          exact (mem_nearS hB).2 ⟨by omega, hx⟩
        · omega
    · have f1 := hforth a ha h (by omega)
      rw [h4] at f1
      have : F[c]?.getD 0 ≠ 0 := fun e => by
        have hs := h2 c hc (by omega)
        rw [e] at hs
        rcases steps_last hs with ⟨_, e2⟩ | ⟨_, _, e2, _⟩
        · omega
        · simp at e2
      omega

theorem near_len {B : Brd} (hB : B.Ok) (c : Int) : (nearS B c).length ≤ 64 := by
  rw [nearS_eq hB]
  unfold nearL
  refine Nat.le_trans (List.length_filter_le _ _) ?_
  have := hB.hi
  simp; omega

theorem step_call_g {w : World} {ops : Array Oper} {o : Oper} {a : Act} {K : Act → World → Prop} {Q : Exit → Act → World → Prop} {E : Prop} (hw : Region.wanted o (yielded ops a.tmps) = true) (f : Nat) (xs : Array Operand) (ts : Array TypeId) (args : Array Value)
    (ho : o.op = .call { callee := .value (.func f), args := xs, argTypes := ts }) (hal : xs.toList.map a.eval = args.toList) (eg : ∀ args w, (callFunc f args).run Tryd.prog w = .ok (.enter f args) w)
    (h : Calls Tryd.prog f args w fun e w' => ∃ v, e = .returned v ∧ K (a.put o.dst v) w') :
    if Region.wanted o (yielded ops a.tmps) = true then Oper.wp Tryd.prog o a w K Q else E := by
  rw [if_pos hw]
  have ha : xs.map a.eval = args := Array.ext' (by simpa using hal)
  have hr : (execOp a.eval o).run Tryd.prog w = .ok (.enter f args) w := by
    simp [execOp, ho, resolve, Deferred.ofValue, Act.eval, invoke] at ha ⊢
    rw [ha]
    exact eg args w
  unfold Oper.wp
  rw [hr]
  exact h.mono (by rintro e w' ⟨v, rfl, hk⟩; exact hk)

/-- Owned rows, as lists. -/
theorem OwnRows.rws {h g n : Nat} {G : Value → Prop} {rows : List (List Int)} {vs : List Value} {W : World} (hr : OwnRows h g n G rows vs W) : Rws W.heap.size W (some ⟨g, 0, none⟩) rows := by
  refine .inr ⟨g, 0, rfl, (Array.getElem?_eq_some_iff.1 hr.heap).1, fun j hj => ?_⟩
  have hrl := hr.rlen
  obtain ⟨v, hv, hc, _⟩ := hr.cell (i := j) (by omega)
  obtain ⟨a, c, rfl, hI⟩ := (hr.own j v hv).ints
  exact ⟨a, c, by rw [Nat.zero_add]; exact hc, hI⟩
end Go.Proofs.YtcpjkilnbhfpjaaDoor
