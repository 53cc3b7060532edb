/-
  A region whose order is open, within a round of a loop over a function.
-/
import Derived.OrdersHeld
import Derived.OrdersIn
import Derived.RangeFuncCalls
import Derived.TacticsIn
import Derived.Deep.RegionHeld3
namespace Go.Proofs.YtcpjkilnbhfpjaaDoor
open Go

variable {P : Program} {ops : Array Oper} {Q : Exit → Act → World → Prop} {md : Region.Mode} {l n : Nat}

theorem op_round {o : Oper} (hd : ∀ c, o.op ≠ Op.defer c) {a : Act} {w : World} {K : Act → World → Prop} (h : Oper.wp P o a w K Q) : Oper.wpIn (Fence.wide.inRound l) n P o a w K Q := by
  refine ⟨fun _ _ => trivial, ?_⟩
  rw [Oper.semAt_eq _ _ _ hd]
  unfold Oper.wp at h
  generalize (execOp a.eval o).run P w = r at h ⊢
  cases r with
  | ok x w' =>
    cases x with
    | value v => exact h
    | skip => exact h
    | defer d => exact h
    | enter f args => exact ⟨(fun hh => by cases hh), CallsIn.inRound l (callsIn_wide.2 h)⟩
    | row r args => exact ⟨(fun hh => by cases hh), fun c cs _ => by
        obtain ⟨v, w'', r', s⟩ := h c cs
        exact ⟨v, w'', r', stepsIn_wide.2 s⟩⟩
    | _ => exact h.elim
  | halt x w' =>
    cases x with
    | panic v => exact h
    | _ => exact h

theorem opIn_round (hnd : ∀ (i : Nat) (o : Oper) (c : Go.Call), ops[i]? = some o → o.op ≠ Op.defer c) (hno : ¬ LetsOut Q) {i : Nat} {a : Act} {w : World} {K : Act → World → Prop} (h : wpOp P ops Q i K a w) : wpOpIn (Fence.wide.inRound l) n P ops Q i K a w := by
  unfold wpOp at h
  unfold wpOpIn
  cases ho : ops[i]? with
  | none => rw [ho] at h; exact h
  | some o =>
    rw [ho] at h
    simp only at h ⊢
    split
    · rename_i hw
      rw [if_pos hw] at h
      exact op_round (fun c => hnd i o c ho) (h.resolve_right fun h' => hno h'.2)
    · rename_i hw
      rw [if_neg hw] at h
      exact ⟨fun _ _ => trivial, h⟩

theorem any_round (hnd : ∀ (i : Nat) (o : Oper) (c : Go.Call), ops[i]? = some o → o.op ≠ Op.defer c) (hno : ¬ LetsOut Q) : ∀ (fuel : Nat) (listed : Array Bool) (a : Act) (w : World), wpAny P md ops Q fuel listed a w → wpAnyIn (Fence.wide.inRound l) n P md ops Q fuel listed a w
  | 0, _, _, _, h => h
  | fuel + 1, _, _, _, h => ⟨h.1, fun i hi => opIn_round hnd hno (wpOp_mono (fun a' w' h' => any_round hnd hno fuel _ a' w' h') (h.2 i hi))⟩

theorem nodefer (h : ops.toList.all (fun o => match o.op with | .defer _ => false | _ => true) = true) : ∀ (i : Nat) (o : Oper) (c : Go.Call), ops[i]? = some o → o.op ≠ Op.defer c := by
  intro i o c hi hd
  have := List.all_eq_true.1 h o (by have := Array.mem_of_getElem? hi; simpa using this)
  rw [hd] at this
  cases this

theorem wpIn_region_round {id : Nat} {a : Act} {w : World} {S : World → Prop} (hm : P.follows .mixedOrders = true) (hnd : ∀ (i : Nat) (o : Oper) (c : Go.Call), ops[i]? = some o → o.op ≠ Op.defer c) (hno : ¬ LetsOut Q) (hS : S w.drew)
    (h : S w.drew → wpAnyH P .any ops Q S ops.size (Array.replicate ops.size false) a w.drew) : (Code.region id ops true).wpIn (Fence.wide.inRound l) n P Q a w :=
  wpIn_region_any hm (any_round hnd hno _ _ _ _ (wpAny_of_held _ _ _ _ (h hS)))
end Go.Proofs.YtcpjkilnbhfpjaaDoor
