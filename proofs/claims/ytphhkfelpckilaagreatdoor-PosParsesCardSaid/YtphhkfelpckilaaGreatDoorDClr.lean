/-
  clear at a part of a list of positions.
-/
import Derived.Test.YtphhkfelpckilaaGreatDoorDCmpF
import Derived.Laws.IdiomCopy
namespace Go.Proofs.YtphhkfelpckilaaGreatDoor
open Go Go.RowKit Go.Lib Go.Sort

def setL : List Value → Nat → List Value → List Value
  | xs, _, [] => xs
  | xs, o, v :: r => setL (xs.set o v) (o + 1) r
theorem setL_take {m : Nat} : ∀ (vs : List Value) (xs : List Value) (o : Nat), m ≤ o → (setL xs o vs).take m = xs.take m
  | [], _, _, _ => rfl
  | v :: r, xs, o, h => by
    unfold setL
    rw [setL_take r _ _ (by omega), List.take_set_of_le h]
theorem setCells_own {n N g cap : Nat} {e : TypeId} : ∀ (vs : List Value) (o : Nat) (xs : List Value) (W : World), W.ownsRow n e 5 (.slice (some ⟨g, 0, none⟩) N cap) N xs →
    (W.setCells g o vs).ownsRow n e 5 (.slice (some ⟨g, 0, none⟩) N cap) N (setL xs o vs) ∧ Alters (fun k => k = g) W (W.setCells g o vs)
  | [], _, _, W, h => ⟨h, Alters.refl _ W⟩
  | v :: r, o, xs, W, h => by
    obtain ⟨h1, h2⟩ := setCells_own r (o + 1) _ _ (World.ownsRow.stored h o v).1
    exact ⟨h1, (alters_cell W g o v).trans h2⟩
theorem row_take {n N g cap m : Nat} {e : TypeId} {W : World} {xs : List Value} (h : W.ownsRow n e 5 (.slice (some ⟨g, 0, none⟩) N cap) N xs) (hm : m ≤ N) : W.ownsRow n e 5 (.slice (some ⟨g, 0, none⟩) m cap) m (xs.take (m * 5)) := by
  have hl := h.1
  rcases h.2 with ⟨h1, _⟩ | ⟨g', cap', cur, hv, hg, hc, hnc, hcm, hcs, ht⟩
  · cases h1
  · cases hv
    refine ⟨by rw [List.length_take, hl]; omega, .inr ⟨g, cap, cur, rfl, hg, hc, by omega, hcm, hcs, ?_⟩⟩
    rw [← ht, List.take_take]
    congr 1
    omega

theorem zero_cells (n : Nat) : (Builtin.zeroCells (#[.slice none 0 0, .slice none 0 0, .slice none 0 0, .int .i64 0, .int .i64 0] : Array Value) n).toList.length = n * 5 ∧
    ∀ v ∈ (Builtin.zeroCells (#[.slice none 0 0, .slice none 0 0, .slice none 0 0, .int .i64 0, .int .i64 0] : Array Value) n).toList, v.oneCell' = true := by
  refine ⟨by simp [Builtin.zeroCells], fun v hv => ?_⟩
  simp only [Builtin.zeroCells, Array.toList_map, List.mem_map] at hv
  obtain ⟨j, _, rfl⟩ := hv
  have : j % 5 = 0 ∨ j % 5 = 1 ∨ j % 5 = 2 ∨ j % 5 = 3 ∨ j % 5 = 4 := by omega
  show ((#[.slice none 0 0, .slice none 0 0, .slice none 0 0, .int .i64 0, .int .i64 0] : Array Value)[j % 5]!).oneCell' = true
  rcases this with h | h | h | h | h <;> rw [h] <;> rfl

theorem own_cap {n : Nat} {W : World} {g cap N : Nat} {L : List PosA} (h : OwnPs n W (.slice (some ⟨g, 0, none⟩) N cap) L) : L.length ≤ cap := by
  rcases h.2 with ⟨h1, _⟩ | ⟨g', cap', cur, hv, hg, hc, hnc, _⟩
  · cases h1
  · cases hv; exact hnc

theorem clear_any (L : List PosA) (n g cap k c : Nat) (W : World) (ho : OwnPs n W (.slice (some ⟨g, 0, none⟩) L.length cap) L) (hk : k ≤ L.length) :
    ∃ w', (∀ ty, (Builtin.clear_ #[43] ty #[.slice (some ⟨g, k * 5, none⟩) (L.length - k) c]).run Tryz.prog W = .ok (.tuple #[]) w') ∧ OwnPs n w' (.slice (some ⟨g, 0, none⟩) k cap) (L.take k) ∧ Alters (fun j => j = g) W w' := by
  rcases Nat.eq_zero_or_pos (L.length - k) with h0 | hpos
  · refine ⟨W, ?_, ho.take hk, Alters.refl _ _⟩
    intro ty
    rw [h0]
    simp [Builtin.clear_, run_underlying Tryz.underlying43]
  · obtain ⟨m, hm⟩ : ∃ m, L.length - k = m + 1 := ⟨L.length - k - 1, by omega⟩
    obtain ⟨z1, z2⟩ := zero_cells (m + 1)
    obtain ⟨r1, r2⟩ := setCells_own (Builtin.zeroCells (#[.slice none 0 0, .slice none 0 0, .slice none 0 0, .int .i64 0, .int .i64 0] : Array Value) (m + 1)).toList (k * 5) _ _ ho
    have hl := fm_length PosA.enc_len L
    have hst := run_storeCells_cells (P := Tryz.prog) g (k * 5) (Builtin.zeroCells (#[.slice none 0 0, .slice none 0 0, .slice none 0 0, .int .i64 0, .int .i64 0] : Array Value) (m + 1)).toList 0 W
      (fun j hj => by
        rw [z1] at hj
        rw [Nat.add_zero, World.ownsRow.cellAt ho _ (by omega), List.getElem?_eq_getElem (by rw [hl]; omega)]
        rfl)
      (fun j _ => ho.frozen _) z2
    rw [Nat.add_zero] at hst
    refine ⟨_, ?_, ?_, r2⟩
    · intro ty
      rw [hm]
      simp [Builtin.clear_, run_underlying Tryz.underlying43, Tryz.zeroValue32, Value.cells, hst]
    · have hr := row_take r1 hk
      rw [setL_take _ _ _ (Nat.le_refl _)] at hr
      have hlm : (L.take k).length = k := by simp; omega
      have e : (L.take k).flatMap PosA.enc = (L.flatMap PosA.enc).take (k * 5) := by
        conv => rhs; rw [← List.take_append_drop k L, List.flatMap_append]
        rw [List.take_left']
        rw [fm_length PosA.enc_len, hlm]
      unfold OwnPs
      rw [hlm, e]
      exact hr
end Go.Proofs.YtphhkfelpckilaaGreatDoor
