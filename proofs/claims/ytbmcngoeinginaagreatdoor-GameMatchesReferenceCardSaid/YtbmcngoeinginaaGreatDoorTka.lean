/-
 Steps of a drawn region in short, what only a computation shows kept apart.
-/
import Derived.Test.YtbmcngoeinginaaGreatDoorTk
namespace Go.Proofs.YtbmcngoeinginaaGreatDoor
open Go Go.RowKit
section
variable {P : Program} {md : Region.Mode} {ops : Array Oper} {Q : Exit → Act → World → Prop} {S : World → Prop} {fuel : Nat} {listed : Array Bool} {a : Act} {w : World}
theorem TKA (i : Nat) {o : Oper} {v : Value} (h : wpAnyH P md ops Q S fuel (listed.setIfInBounds i true) (a.put o.dst v) w)
   (hi : nthO ops.toList i = some o := by rfl) (hs : Region.noSelect ops = true := by as_aux_lemma => kernel_rfl) (hf : Region.free md ops listed i = true := by as_aux_lemma => kernel_rfl) (hr : (Region.ready md ops listed).contains i = true := by as_aux_lemma => kernel_rfl)
   (hQ : ∀ c a w, Q (.panic c) (a.put o.dst v) w → Q (.panic c) a w := by exact fun _ _ _ h => h) (hw : Region.wanted o (yielded ops a.tmps) = true := by rfl)
   (hy : ∀ w, S w → (execOp a.eval o).run P w = .ok (.value v) w := by ((intro w hSw; (try dsimp only at hSw); go_simp); try with_reducible rfl)) (hS : S w := by assumption) : wpAnyH P md ops Q S (fuel + 1) listed a w :=
 wpAnyH_take (nth_ops hi) hs hf hr hQ (Or.inl ⟨hw, hy⟩) hS h
end
end Go.Proofs.YtbmcngoeinginaaGreatDoor
