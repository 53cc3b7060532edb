/-
  What the law asks of the parts, of the list alone.
-/
import Derived.Test.YtccapadoeocebaaDoorLinked
namespace Go.Proofs.YtccapadoeocebaaDoor
open Go Go.RowKit

theorem parts_law {B : Brd} (hB : B.Ok) {n : Nat} (hn : B.cells = n) {c : Nat} (hc : c < n) :
    ∃ p : Nat, p ≤ c ∧ (partsS B)[c]?.getD 0 = p ∧ (partsS B)[p]?.getD 0 = p ∧ Linked B n p c ∧
      ∀ d : Nat, d < B.next.length → 0 ≤ nextS B d c → ∃ v : Nat, nextS B d c = v ∧ v < n ∧ (partsS B)[v]?.getD 0 = p := by
  obtain ⟨p, hpc, e, hl, hmin⟩ := parts_spec hB hn hc
  have same : ∀ v : Nat, v < n → Linked B n c v → (partsS B)[v]?.getD 0 = p := by
    intro v hv hcv
    obtain ⟨q, _, e2, hl2, hmin2⟩ := parts_spec hB hn hv
    rw [e2]
    have h1 : Linked B n p v := hl.trans hcv
    have h2 : Linked B n q c := hl2.trans (hcv.symm hB hn hc)
    have h3 : ¬ q < p := fun h => hmin q h h2
    have h4 : ¬ p < q := fun h => hmin2 p h h1
    omega
  refine ⟨p, hpc, e, same p (by omega) (hl.symm hB hn (by omega)), hl, fun d hd h0 => ?_⟩
  have hm : nextS B d c ∈ stepsS B c := (mem_stepsS B c _).2 ⟨h0, step_yes hd rfl⟩
  have hr := stepsS_lt hB hn c hc _ hm
  obtain ⟨v, ev⟩ := Int.eq_ofNat_of_zero_le h0
  rw [ev] at hm hr
  exact ⟨v, ev, by omega, same v (by omega) ⟨1, .on .here ((adj_mem hB hn hc _).2 (.inl hm))⟩⟩
end Go.Proofs.YtccapadoeocebaaDoor
