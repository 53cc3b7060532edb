/-
 Appends to a list whose block was made before other things that are read.
-/
import Derived.Test.YtbmcngoeinginaaGreatDoorPushP
namespace Go.Proofs.YtbmcngoeinginaaGreatDoor
open Go Go.RowKit Go.Sort
structure PO (w5 : World) (B0 : Nat) (W : World) (v : Value) (l : List (Int × Int)) : Prop where
 own : OwnStp 0 W v l
 spot : v.ownBlock = some B0 ∨ ∃ k, w5.heap.size ≤ k ∧ v.ownBlock = some k
 keep : Alters (fun k => k = B0 ∨ w5.heap.size ≤ k) w5 W
theorem PO.below {w5 W W' : World} {B0 : Nat} {v : Value} {l : List (Int × Int)} (h : PO w5 B0 W v l) (hb : Below W.heap.size W W') : PO w5 B0 W' v l :=
 ⟨h.own.below hb, h.spot, h.keep.trans ((Alters.of_below hb : Alters (fun _ => False) W W').mono (fun _ _ h => h.elim))⟩
theorem Prg.turnedBy {w5 W : World} {S : Nat → Prop} {g off : Nat} {l : List (Int × Int)} (h : Prg w5.heap.size w5 (some ⟨g, off, none⟩) l) (ha : Alters S w5 W) (hS : ¬ S g) : Prg w5.heap.size W (some ⟨g, off, none⟩) l := by
 rcases h with h | ⟨b', off', e, hn, hc⟩
 · exact .inl h
 · cases e
   have hk := ha.block g hn hS;exact .inr ⟨g, off, rfl, hn, fun j hj => ⟨(World.cell?_of_block (a := ⟨g, off + j * 2, none⟩) hk).trans (hc j hj).1, (World.cell?_of_block (a := ⟨g, off + j * 2 + 1, none⟩) hk).trans (hc j hj).2⟩⟩
theorem PO.pushed {w5 W W' : World} {B0 : Nat} {v v' : Value} {l l2 : List (Int × Int)} (h : PO w5 B0 W v l) (ho : OwnStp 0 W' v' (l ++ l2)) (hg : W.grownBy W' v.ownBlock) (h5 : v'.ownBlock = v.ownBlock ∨ v'.ownBlock = some W.heap.size) : PO w5 B0 W' v' (l ++ l2) := by
 have hk := h.keep.size
 refine ⟨ho, ?_, h.keep.trans ((Alters.of_grown hg).mono fun k _ e => ?_)⟩
 · rcases h5 with h5 | h5
   · rw [h5]; exact h.spot
   · exact .inr ⟨_, hk, h5⟩
 · rcases h.spot with hs | ⟨j, hj, hs⟩
   · rw [hs] at e; left; simpa using e
   · rw [hs] at e; right; have : k = j := by simpa using e
     omega
theorem PO.form {w5 W : World} {B0 : Nat} {v : Value} {l : List (Int × Int)} (h : PO w5 B0 W v l) : ∃ g cap, v = .slice (some ⟨g, 0, none⟩) l.length cap := by
 rcases h.own.form with ⟨rfl, _⟩ | ⟨g, cap, e, _⟩
 · rcases h.spot with hs | ⟨_, _, hs⟩ <;> simp [Value.ownBlock] at hs
 · exact ⟨g, cap, e⟩
theorem PO.lit {w5 W : World} {B0 : Nat} {v : Value} {l : List (Int × Int)} (h : PO w5 B0 W v l) (x y : Int) : PO w5 B0 (W.alloc (.cells #[.int .i64 x, .int .i64 y] 91)) (.slice (some ⟨W.heap.size, 0, none⟩) 1 1) [(x, y)] :=
 ⟨(ownP_lit W W.heap.size x y rfl).mono (Nat.zero_le _), .inr ⟨_, h.keep.size, rfl⟩, (h.below (below_alloc (Below.refl _ _) _)).keep⟩
theorem wpList_pushPO {w : World} {ops : Array Oper} {rest : List Oper} {o : Oper} {a : Act} {Q : Exit → Act → World → Prop} (hgd : o.guard = none) (t : TypeId) (ht : StepsTy t) (s y : Operand)
   (ho : o.op = .call { callee := .builtin .append, args := #[s, y], argTypes := #[t, t] }) (w5 : World) (B0 N : Nat) (v : Value) (l : List (Int × Int)) (hs : a.eval s = v) (h : PO w5 B0 w v l) (hl : l.length < 2000)
   (b off c k : Nat) (l2 : List (Int × Int)) (hy : a.eval y = .slice (some ⟨b, off, none⟩) k c) (hk : k = l2.length) (hl2 : l2.length < 2000) (hx : Prg N w (some ⟨b, off, none⟩) l2)
   (hK : ∀ v' w', PO w5 B0 w' v' (l ++ l2) → wpList Tryz.prog ops Q rest (a.put o.dst v') w') :
   wpList Tryz.prog ops Q (o :: rest) a w :=
 wpList_plain hgd fun K hK' => by
   subst hk;obtain ⟨v', w', hr, h2, h3, h5⟩ := run_pushP t o.type ht 0 N v l h.own hl (Nat.zero_le _) b off c l2 hl2 hx;unfold Oper.wp
   simp [execOp, ho, resolve, invoke, builtin, hs, hy, hr, Result.andThen]
   exact hK' _ _ (hK v' w' (h.pushed h2 h3 h5))
end Go.Proofs.YtbmcngoeinginaaGreatDoor
