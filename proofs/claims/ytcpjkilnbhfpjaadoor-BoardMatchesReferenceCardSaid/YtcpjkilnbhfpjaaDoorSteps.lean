/-
  The iterator that steps of the package board makes: what it yields.
-/
import Derived.Test.YtcpjkilnbhfpjaaDoorNy
import Derived.RangeFuncNested
import Derived.RangeFuncBound
import Derived.RangeFuncCalls
import Derived.RangeFuncLeaves
import Derived.RangeFuncBox
import Derived.Shelf.Abstract
import Derived.OwnWalkIn
import Derived.TacticsInMore
import Derived.LoopNIn
import Derived.LoopIn
import Derived.BigFrameIn
namespace Go.Proofs.YtcpjkilnbhfpjaaDoor
open Go Go.RowKit Go.Shelf

attribute [local go_sem] Oper.semAt_some

theorem nextS_range {B : Brd} (hB : B.Ok) (d c : Int) : -1 ≤ nextS B d c ∧ nextS B d c < B.cells ∧ (0 ≤ nextS B d c → 0 ≤ c ∧ c < B.cells) := by
  unfold nextS
  have := hB.lo
  by_cases h : 0 ≤ d ∧ d < B.next.length ∧ 0 ≤ c ∧ c < B.cells
  · rw [if_pos h]
    have := hB.ent d.toNat c.toNat (by omega) (by omega)
    exact ⟨this.1, this.2, fun _ => ⟨h.2.2.1, h.2.2.2⟩⟩
  · rw [if_neg h]; omega

/-- A loop over the function g: it yields xs, all of which meet R, or the first ones of them. -/
def StopsInt (R : Int → Prop) (n : Nat) (P : Program) (g : Nat) (lb : Array Value) (Kp : World → World → Prop) (xs : List Int) (N : Nat) (w : World) : Prop :=
  ∀ (l : Nat) (J Jx : List Int → World → Prop) (W : World), Below w.heap.size w W → AbidesFrom W.heap.size J → AbidesFrom W.heap.size Jx →
    (∀ pre x W1, R x → J pre W1 → pre.length < N → YieldAt Fence.wide n P l #[.int .i64 x] W1 fun e W' =>
      (e = .returned (.bool true) ∧ J (pre ++ [x]) W' ∧ Kp W1 W') ∨ (e = .returned (.bool false) ∧ Jx (pre ++ [x]) W')) →
    J [] W → CallsIn Fence.wide (n + 1) P g (#[.func (.yield l) #[] #[]] ++ lb) W fun e W' => (∃ v, e = .returned v) ∧ ((∃ ys, ys = xs ∧ J ys W') ∨ (∃ pre, pre <+: xs ∧ Jx pre W'))

theorem StopsInt.seqK {R : Int → Prop} {n : Nat} {P : Program} {g : Nat} {lb : Array Value} {Kp : World → World → Prop} {xs : List Int} {N : Nat} {w : World} (h : StopsInt R n P g lb Kp xs N w) :
    SeqStopsK Fence.wide (n + 1) P g lb (fun x : { x : Int // R x } => #[Value.int .i64 x.1]) Kp (fun ys => ys.map (·.1) = xs) (fun pre => pre.map (·.1) <+: xs) N w := by
  intro l J Jx W hW hJ hJx hY h0
  refine (h l (fun pre W => ∃ ys : List { x : Int // R x }, ys.map (·.1) = pre ∧ J ys W) (fun pre W => ∃ ys : List { x : Int // R x }, ys.map (·.1) = pre ∧ Jx ys W) W hW
    (fun s A B row ⟨ys, e, hs⟩ hg hr => ⟨ys, e, hJ ys A B row hs hg hr⟩) (fun s A B row ⟨ys, e, hs⟩ hg hr => ⟨ys, e, hJx ys A B row hs hg hr⟩) ?_ ⟨[], rfl, h0⟩).mono ?_
  · rintro pre x W1 hx ⟨ys, rfl, hj⟩ hl
    obtain ⟨fn, tmps, assign, body, h1, h2⟩ := hY ys ⟨x, hx⟩ W1 hj (by simpa using hl)
    refine ⟨fn, tmps, assign, body, h1, h2.mono ?_⟩
    rintro e W' (⟨h3, h4, h5⟩ | ⟨h3, h4⟩)
    · exact .inl ⟨h3, ⟨_, by simp, h4⟩, h5⟩
    · exact .inr ⟨h3, ⟨_, by simp, h4⟩⟩
  · rintro e W' ⟨hv, ⟨ys, rfl, ys', h1, h2⟩ | ⟨pre, hp, ys', h1, h2⟩⟩
    · exact ⟨hv, .inl ⟨ys', h1, h2⟩⟩
    · exact ⟨hv, .inr ⟨ys', by show ys'.map (·.1) <+: xs; rw [h1]; exact hp, h2⟩⟩

theorem StopsInt.mono {R : Int → Prop} {n : Nat} {P : Program} {g : Nat} {lb : Array Value} {Kp Kp' : World → World → Prop} {xs : List Int} {N N' : Nat} {w : World} (h : StopsInt R n P g lb Kp xs N w)
    (hK : ∀ A B, Kp' A B → Kp A B) (hN : N ≤ N') : StopsInt R n P g lb Kp' xs N' w := fun l J Jx W hW hJ hJx hY h0 =>
  h l J Jx W hW hJ hJx (fun pre x W1 hx hj hl => by
    obtain ⟨fn, tmps, assign, body, h1, h2⟩ := hY pre x W1 hx hj (by omega)
    refine ⟨fn, tmps, assign, body, h1, h2.mono ?_⟩
    rintro e W' (⟨h3, h4, h5⟩ | h3)
    · exact .inl ⟨h3, h4, hK _ _ h5⟩
    · exact .inr h3) h0

/-- The cells to which the first k directions lead from c, where they lead. -/
def stepsTo (B : Brd) (c : Int) (k : Nat) : List Int := ((List.range k).map fun d => nextS B (d : Nat) c).filter fun v => decide (0 ≤ v)
def stepsS (B : Brd) (c : Int) : List Int := stepsTo B c B.next.length

theorem stepsTo_yes (B : Brd) (c : Int) (k : Nat) (h : 0 ≤ nextS B k c) : stepsTo B c (k + 1) = stepsTo B c k ++ [nextS B k c] := by
  simp [stepsTo, List.range_succ, h]
theorem stepsTo_no (B : Brd) (c : Int) (k : Nat) (h : nextS B k c < 0) : stepsTo B c (k + 1) = stepsTo B c k := by
  simp [stepsTo, List.range_succ]; omega
theorem stepsTo_le (B : Brd) (c : Int) (k : Nat) : (stepsTo B c k).length ≤ k := by
  unfold stepsTo; refine Nat.le_trans (List.length_filter_le _ _) ?_; simp
theorem stepsTo_pre (B : Brd) (c : Int) {j k : Nat} (h : j ≤ k) : stepsTo B c j <+: stepsTo B c k := by
  induction k with
  | zero => obtain rfl : j = 0 := by omega
            exact List.prefix_rfl
  | succ k ih =>
    by_cases e : j = k + 1
    · subst e; exact List.prefix_rfl
    · refine List.IsPrefix.trans (ih (by omega)) ?_
      by_cases h0 : 0 ≤ nextS B k c
      · rw [stepsTo_yes B c k h0]; exact List.prefix_append _ _
      · rw [stepsTo_no B c k (by omega)]; exact List.prefix_rfl

/-- What a round of the caller's loop must keep: the board's lists, and the two boxes. -/
def stepsKp (N Bb Bc : Nat) : World → World → Prop := Keep fun k => k < N ∨ k = Bb ∨ k = Bc

set_option maxHeartbeats 400000 in
theorem steps_any (x : Value) (y z : Value) (c : Int) (w : World) :
    Calls Tryd.prog 37 #[.agg #[x, y, z], .int .i64 c] w fun e w' => e = .returned (.func (.func 54) #[] #[.pointer (some ⟨w.heap.size, 0, none⟩), .pointer (some ⟨w.heap.size + 1, 0, none⟩)]) ∧
      (w.alloc (.cells #[x, y, z] 31)).alloc (.cells #[.int .i64 c] 3) = w' := by
  go_enter Tryd.func37, Tryd.ntmps37
  go_wp2
  go_ret
  exact ⟨rfl, rfl⟩

set_option maxRecDepth 100000 in
set_option maxHeartbeats 1000000 in
theorem steps1_in (n : Nat) (B : Brd) (hB : B.Ok) (an at_ : Option Addr) (cn ct : Nat) (c : Int) (l Bb Bc N : Nat) (J Jx : List Int → World → Prop) (W : World)
    (hJ : AbidesFrom W.heap.size J)
    (hY : ∀ pre x W, 0 ≤ x ∧ x < B.cells → J pre W → pre.length < B.next.length → YieldAt Fence.wide n Tryd.prog l #[.int .i64 x] W fun e W' =>
      (e = .returned (.bool true) ∧ J (pre ++ [x]) W' ∧ stepsKp N Bb Bc W W') ∨ (e = .returned (.bool false) ∧ Jx (pre ++ [x]) W'))
    (hNW : N ≤ W.heap.size) (hBb : Bb < W.heap.size) (hBc : Bc < W.heap.size)
    (hb0 : W.cell? ⟨Bb, 0, none⟩ = some (.int .i64 B.cells)) (hb1 : W.cell? ⟨Bb, 1, none⟩ = some (.slice an B.next.length cn)) (hb2 : W.cell? ⟨Bb, 2, none⟩ = some (.slice at_ B.turn.length ct))
    (hc0 : W.cell? ⟨Bc, 0, none⟩ = some (.int .i64 c)) (hH : Held N W an at_ B) (h0 : J [] W) :
    CallsIn Fence.wide (n + 1) Tryd.prog 54 #[.func (.yield l) #[] #[], .pointer (some ⟨Bb, 0, none⟩), .pointer (some ⟨Bc, 0, none⟩)] W fun e W' => (∃ v, e = .returned v) ∧
      ((∃ ys, ys = stepsS B c ∧ J ys W') ∨ (∃ pre, pre <+: stepsS B c ∧ Jx pre W')) := by
  have hdirs := hB.dirs
  refine callsIn_of_wp Tryd.func54 rfl trivial ?_ rfl
  simp only [Tryd.ntmps54, List.size_toArray, List.length_cons, List.length_nil, Nat.reduceAdd, Nat.reduceSub, Array.replicate_succ, Array.replicate_zero, List.push_toArray, List.append_toArray, List.nil_append, List.cons_append]
  gi_wp2
  gi_loopw [9] (fun i wr => ∃ k : Nat, k ≤ B.next.length ∧ i = .int .i64 k ∧ J (stepsTo B c k) wr ∧ stepsKp N Bb Bc W wr)
    (fun i _ => B.next.length - (intOf i).toNat)
  case atStart => exact ⟨0, Nat.zero_le _, rfl, h0, Keep.refl _ _⟩
  case round =>
    obtain ⟨k, hk, rfl, hJs, hnx⟩ := hrel
    by_cases hlt : k < B.next.length
    · have e0 := (hnx.cell (p := ⟨Bb, 0, none⟩) (.inr (.inl rfl))).trans hb0
      have e1 := (hnx.cell (p := ⟨Bb, 1, none⟩) (.inr (.inl rfl))).trans hb1
      have e2 := (hnx.cell (p := ⟨Bb, 2, none⟩) (.inr (.inl rfl))).trans hb2
      have e3 := (hnx.cell (p := ⟨Bc, 0, none⟩) (.inr (.inr rfl))).trans hc0
      have eH := hH.keep hnx (fun k hk => .inl hk)
      have hst := hnx.1
      by_cases hs : 0 ≤ nextS B k c
      · gi_wp2_with fail
        refine ⟨trivial, ?_⟩
        refine (callsIn_wide.2 (next_any B hB an at_ cn ct _ _ N _ eH)).mono ?_
        rintro e w2 ⟨rfl, hb⟩
        obtain ⟨fn, tmps, assign, body, hy, hR⟩ := hY _ (nextS B k c) w2 ⟨hs, (nextS_range hB k c).2.1⟩ (hJ _ _ _ none hJs (below_grown hb) (fun r e => by cases e)) (Nat.lt_of_le_of_lt (stepsTo_le B c k) hlt)
        gi_wp2
        refine hR.mono ?_
        rintro e W3 (⟨rfl, hJ3, hk3⟩ | ⟨rfl, hJx3⟩)
        · gi_wp2
          go_roundw
          case rel => exact ⟨k + 1, by omega, by simp, by rw [stepsTo_yes B c k hs]; exact hJ3, (hnx.trans (Below.keep hb (fun i hi => by rcases hi with h | rfl | rfl <;> omega))).trans hk3⟩
          case measure => simp [intOf]; omega
        · gi_wp2
          refine bodyPost_ret (results_none rfl _ _ _) rfl ?_
          exact ⟨⟨_, rfl⟩, .inr ⟨_, by rw [← stepsTo_yes B c k hs]; exact stepsTo_pre B c (by omega), hJx3⟩⟩
      · have hd : decide (0 ≤ nextS B k c) = false := by simpa using hs
        gi_wp2_with fail
        refine ⟨trivial, ?_⟩
        refine (callsIn_wide.2 (next_any B hB an at_ cn ct _ _ N _ eH)).mono ?_
        rintro e w2 ⟨rfl, hb⟩
        gi_wp2
        refine ⟨fun _ h => (by cases h), ?_⟩
        gi_wp2
        go_roundw
        case rel => exact ⟨k + 1, by omega, by simp, by rw [stepsTo_no B c k (by omega)]; exact hJ _ _ _ none hJs (below_grown hb) (fun r e => by cases e), hnx.trans (Below.keep hb (fun i hi => by rcases hi with h | rfl | rfl <;> omega))⟩
        case measure => simp [intOf]; omega
    · obtain rfl : k = B.next.length := by omega
      gi_wp2
      go_end0
      exact ⟨⟨_, rfl⟩, .inl ⟨_, rfl, hJs⟩⟩

/-- steps yields just these cells, in this order, or the first ones, if the caller breaks off. -/
theorem steps_stopsInt (n : Nat) (B : Brd) (hB : B.Ok) (an at_ : Option Addr) (cn ct : Nat) (c : Int) (Bb Bc N : Nat) (w : World) (hNW : N ≤ w.heap.size) (hBb : Bb < w.heap.size) (hBc : Bc < w.heap.size)
    (hb0 : w.cell? ⟨Bb, 0, none⟩ = some (.int .i64 B.cells)) (hb1 : w.cell? ⟨Bb, 1, none⟩ = some (.slice an B.next.length cn)) (hb2 : w.cell? ⟨Bb, 2, none⟩ = some (.slice at_ B.turn.length ct))
    (hc0 : w.cell? ⟨Bc, 0, none⟩ = some (.int .i64 c)) (hH : Held N w an at_ B) :
    StopsInt (fun x => 0 ≤ x ∧ x < B.cells) n Tryd.prog 54 #[.pointer (some ⟨Bb, 0, none⟩), .pointer (some ⟨Bc, 0, none⟩)] (stepsKp N Bb Bc) (stepsS B c) B.next.length w := fun l J Jx W hW hJ _ hY h0 => by
  have hs := hW.size
  exact steps1_in n B hB an at_ cn ct c l Bb Bc N J Jx W hJ hY (by omega) (by omega) (by omega) (cell_keep hW hb0) (cell_keep hW hb1) (cell_keep hW hb2) (cell_keep hW hc0) (hH.up hNW hW) h0

theorem steps_stops (n : Nat) (B : Brd) (hB : B.Ok) (an at_ : Option Addr) (cn ct : Nat) (c : Int) (Bb Bc N : Nat) (w : World) (hNW : N ≤ w.heap.size) (hBb : Bb < w.heap.size) (hBc : Bc < w.heap.size)
    (hb0 : w.cell? ⟨Bb, 0, none⟩ = some (.int .i64 B.cells)) (hb1 : w.cell? ⟨Bb, 1, none⟩ = some (.slice an B.next.length cn)) (hb2 : w.cell? ⟨Bb, 2, none⟩ = some (.slice at_ B.turn.length ct))
    (hc0 : w.cell? ⟨Bc, 0, none⟩ = some (.int .i64 c)) (hH : Held N w an at_ B) :
    SeqStopsK Fence.wide (n + 1) Tryd.prog 54 #[.pointer (some ⟨Bb, 0, none⟩), .pointer (some ⟨Bc, 0, none⟩)] (fun x : Int => #[Value.int .i64 x]) (stepsKp N Bb Bc)
      (fun ys => ys = stepsS B c) (fun pre => pre <+: stepsS B c) B.next.length w := fun l J Jx W hW hJ _ hY h0 => by
  have hs := hW.size
  exact steps1_in n B hB an at_ cn ct c l Bb Bc N J Jx W hJ (fun pre x W _ => hY pre x W) (by omega) (by omega) (by omega) (cell_keep hW hb0) (cell_keep hW hb1) (cell_keep hW hb2) (cell_keep hW hc0) (hH.up hNW hW) h0
end Go.Proofs.YtcpjkilnbhfpjaaDoor
