/-
  A range over a function whose iterator keeps a block of its own, which the caller never touches: the loop runs to its end.
-/
import Derived.Test.YtcpjkilnbhfpjaaDoorLib
import Derived.RangeFuncNested
import Derived.RangeFuncBound
import Derived.RangeFuncCalls
import Derived.RangeFuncLeaves
import Derived.OwnWalkIn
import Derived.TacticsInMore
namespace Go.Proofs.YtcpjkilnbhfpjaaDoor
open Go Go.RowKit

/-- What the iterator asks of the caller, and gives: f is the iterator's own block. -/
def GivesSt (n : Nat) (P : Program) (g : Nat) (lb : Array Value) (Kp : Nat → World → World → Prop) (xs : List Int) (N : Nat) (w : World) : Prop :=
  ∀ (l : Nat) (J : Nat → List Int → World → Prop) (W : World), Below w.heap.size w W →
    (∀ f pre X Y row, J f pre X → X.grownBy Y row → (row = none ∨ row = some f) → W.heap.size ≤ f → J f pre Y) →
    (∀ f pre x W1, J f pre W1 → W.heap.size ≤ f → f < W1.heap.size → pre.length < N → YieldAt Fence.wide n P l #[.int .i64 x] W1 fun e W' =>
      e = .returned (.bool true) ∧ J f (pre ++ [x]) W' ∧ Kp f W1 W') →
    (∀ o, J W.heap.size [] (W.alloc o)) →
    CallsIn Fence.wide (n + 1) P g (#[.func (.yield l) #[] #[]] ++ lb) W fun e W' => (∃ v, e = .returned v) ∧ ∃ f, W.heap.size ≤ f ∧ J f xs W'

theorem wpIn_range_st {n : Nat} {P : Program} {g : Operand} {ps : Array Tmp} {assign body : Code} {Q : Exit → Act → World → Prop} {a : Act} {w : World}
    {gf : Nat} {lb : Array Value} (hg : a.eval g = .func (.func gf) #[] lb) (eg : ∀ args w, (callFunc gf args).run P w = .ok (.enter gf args) w)
    {Kp : Nat → World → World → Prop} {xs : List Int} {N : Nat} {w0 : World} (hseq : GivesSt n P gf lb Kp xs N w0) (hb0 : Below w0.heap.size w0 w) (hps : ps.size = 1)
    (hKt : ∀ f (A B C : World), Kp f A B → Kp f B C → Kp f A C)
    (hKb : ∀ f (W : World) (l : Nat) (o o' : Obj), w.heap.size ≤ l → l ≠ f → f < W.heap.size → W.heap[l]? = some o → o.isCells = false → Kp f W (W.putObj l o'))
    (I : Nat → List Int → World → Prop)
    (hI : ∀ f pre X Y row, I f pre X → X.grownBy Y row → (∀ r, row = some r → w.heap.size ≤ r ∧ (r = f ∨ ∃ o : Obj, X.heap[r]? = some o ∧ o.isCells = false)) → I f pre Y)
    (h0 : ∀ f, w.heap.size ≤ f → I f [] w) (a₁ : Int → Act)
    (hassign : ∀ (l : Nat) (x : Int) (W : World) (K : Act → World → Prop), K (a₁ x) W →
      assign.wpIn (Fence.wide.inRound l) n P (Exit.then K (fun _ _ _ => False)) { tmps := (ps.zip #[.int .i64 x]).foldl (fun t (p, v) => t.setIfInBounds p v) a.tmps, defers := [] } W)
    (hbody : ∀ (l f : Nat) (pre : List Int) (x : Int) (W : World), w.heap.size ≤ f → f < W.heap.size → I f pre W → pre.length < N → body.wpIn (Fence.wide.inRound l) n P
      (fun e _ W' => match e with | .normal => KeepsFrom w.heap.size W W' ∧ Kp f W W' ∧ I f (pre ++ [x]) W' | _ => False) (a₁ x) W)
    (hdone : ∀ (D f : Nat) (W : World), w.heap.size ≤ D → w.heap.size ≤ f → I f xs W → W.heap[D]? = some (.deferred (some [])) → Q .normal { a with defers := { target := .collected D, args := #[] } :: a.defers } W) :
    (Code.rangeFunc g ps assign body).wpIn Fence.wide (n + 2) P Q a w := by
  refine wpIn_rangeFunc ?_
  intro fn hfn
  rw [show Fence.wide.round = none from rfl]
  obtain ⟨D, hD⟩ : ∃ D, D = w.heap.size := ⟨_, rfl⟩
  obtain ⟨rc, hrc⟩ : ∃ rc : LoopState → Loop, rc = fun st => { state := st, pending := none, fn, tmps := a.tmps, params := ps, assign, body, defers := D } := ⟨_, rfl⟩
  obtain ⟨W1, hW1⟩ : ∃ W1, (w.alloc (.deferred (some []))).alloc (.loop (rc .ready)) = W1 := ⟨_, rfl⟩
  have hs1 : W1.heap.size = D + 2 := by rw [← hW1, hD]; simp
  have hl1 : W1.heap[D + 1]? = some (.loop (rc .ready)) := by
    rw [← hW1, hD]; have := World.alloc_heap_new (w.alloc (.deferred (some []))) (.loop (rc .ready)); rwa [World.size_alloc] at this
  have hk1 : W1.heap[D]? = some (.deferred (some [])) := by
    rw [← hW1, hD]; exact (Below.heap_alloc _ _ _ (by simp)).trans (World.alloc_heap_new w _)
  have hw1 : Below w.heap.size w W1 := by rw [← hW1]; exact ((Below.refl _ w).alloc (Nat.le_refl _) _).alloc (by simp) _
  have hI1 : ∀ f, D ≤ f → I f [] W1 := fun f hf => hI f [] w W1 none (h0 f (by omega)) (by rw [← hW1]; exact ⟨rfl, rfl, rfl, by simp; omega, fun k hk _ => (Below.heap_alloc _ _ k (by simp; omega)).trans (Below.heap_alloc _ _ k hk)⟩) (fun r e => by cases e)
  refine ⟨D + 1, [{ target := .collected D, args := #[] }], W1, { target := .fn (.func gf) lb, args := #[.func (.yield (D + 1)) #[] #[]] }, W1, gf, #[.func (.yield (D + 1)) #[] #[]] ++ lb, W1, ?_, ?_, fun _ _ => trivial, ?_, fun _ => by omega, ?_⟩
  · rw [← hW1, hrc, hD]; exact run_enterLoop_outer _ _ _ _ _
  · simp only [resolve, hg]
    simp [go_sem]
  · simp [invoke, go_sem, eg]
  refine (hseq (D + 1) (fun f pre W => I f pre W ∧ W.heap[D + 1]? = some (.loop (rc .ready)) ∧ W.heap[D]? = some (.deferred (some []))) W1 (hb0.trans (hw1.mono hb0.size)) ?_ ?_ ?_).mono ?_
  · rintro f pre X Y row ⟨hi, hl, hk⟩ hg' hrow hf
    have far : ∀ i, i < D + 2 → i < X.heap.size → Y.heap[i]? = X.heap[i]? := fun i hi hx => hg'.block i hx (fun e => by rcases hrow with h | h <;> (rw [h] at e; cases e); omega)
    refine ⟨hI f pre X Y row hi hg' (fun r e => ?_), (far _ (by omega) (Array.getElem?_eq_some_iff.1 hl).1).trans hl, (far _ (by omega) (Array.getElem?_eq_some_iff.1 hk).1).trans hk⟩
    rcases hrow with h | h
    · rw [h] at e; cases e
    · rw [h] at e; cases e; exact ⟨by omega, .inl rfl⟩
  · rintro f pre x W ⟨hi, hl, hk⟩ hf hfW hlen
    have hlt : D + 1 < W.heap.size := (Array.getElem?_eq_some_iff.1 hl).1
    have hy := run_yield (P := P) (args := #[Value.int .i64 x]) hl (by rw [hrc]; simp [hps])
    rw [hrc] at hy
    refine ⟨fn, _, assign, body, hy, roundIn_of_wpIn hfn (hassign _ x W _ ⟨_, run_beginRound hl (by rw [hrc]), ?_⟩)⟩
    obtain ⟨W2, hW2⟩ : ∃ W2, W.putObj (D + 1) (.loop { rc .ready with state := .busy }) = W2 := ⟨_, rfl⟩
    rw [hW2]
    have hl2 : W2.heap[D + 1]? = some (.loop { rc .ready with state := .busy }) := by rw [← hW2]; exact World.putObj_heap_same hlt
    have hk2 : W2.heap[D]? = some (.deferred (some [])) := by rw [← hW2]; exact (World.putObj_heap_other (by omega)).trans hk
    have hi2 : I f pre W2 := by rw [← hW2]; exact hI f pre W _ _ hi (grownBy_putObj' W (D + 1) _) (fun r e => by cases e; exact ⟨by omega, .inr ⟨_, hl, rfl⟩⟩)
    have hp2 : Kp f W W2 := by rw [← hW2]; exact hKb f _ _ _ _ (by omega) (by omega) hfW hl rfl
    have hs2 : W2.heap.size = W.heap.size := by rw [← hW2]; simp
    refine wpIn_mono (hbody (D + 1) f pre x W2 (by omega) (by omega) hi2 hlen) ?_
    rintro e a3 W3 hp
    cases e with
    | normal =>
      obtain ⟨hkf, hkp, hi3⟩ := hp
      have hl3 := hkf.same _ _ (by omega) hl2 rfl
      have hk3 := hkf.same _ _ (by omega) hk2 rfl
      have hr := run_endRound (P := P) none hl3
      rw [hrc] at hr
      refine ⟨_, _, hr, rfl, ⟨hI f _ W3 _ _ hi3 (grownBy_putObj' W3 (D + 1) _) (fun r e => by cases e; exact ⟨by omega, .inr ⟨_, hl3, rfl⟩⟩), ?_, (World.putObj_heap_other (by omega)).trans hk3⟩, hKt f _ _ _ hp2 (hKt f _ _ _ hkp (hKb f _ _ _ _ (by omega) (by omega) (by have := hkf.size; omega) hl3 rfl))⟩
      rw [hrc]; exact World.putObj_heap_same (Array.getElem?_eq_some_iff.1 hl3).1
    | ret => exact hp.elim
    | exit id => exact hp.elim
    | goto t => exact hp.elim
    | panic ch => exact hp.elim
    | outgrown => exact hp.elim
  · intro o
    have far : ∀ i, i < D + 2 → (W1.alloc o).heap[i]? = W1.heap[i]? := fun i hi => Below.heap_alloc _ _ _ (by omega)
    exact ⟨hI _ [] W1 _ none (hI1 _ (by omega)) (World.grownBy_alloc W1 o none) (fun r e => by cases e), (far _ (by omega)).trans hl1, (far _ (by omega)).trans hk1⟩
  · rintro e W2 ⟨⟨v, rfl⟩, f, hf, hi, hl, hk⟩
    have := run_endLoop (P := P) hl (by rw [hrc]; simp)
    refine ⟨none, _, by rw [hrc] at this; exact this, ?_⟩
    exact hdone D f _ (by omega) (by omega) (hI f _ W2 _ _ hi (grownBy_putObj' W2 (D + 1) _) (fun r e => by cases e; exact ⟨by omega, .inr ⟨_, hl, rfl⟩⟩)) ((World.putObj_heap_other (by omega)).trans hk)
end Go.Proofs.YtcpjkilnbhfpjaaDoor
