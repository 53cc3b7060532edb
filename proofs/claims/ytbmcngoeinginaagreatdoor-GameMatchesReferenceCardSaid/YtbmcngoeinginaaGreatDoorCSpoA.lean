/-
 Appends of a whole list to an empty one; kinds as a row of the call's own.
-/
import Derived.Test.YtbmcngoeinginaaGreatDoorCLns
import Derived.Test.YtbmcngoeinginaaGreatDoorCRea
import Derived.Deep.AppendSrc
import Derived.Deep.AppendLies
import Derived.Deep.Upon
namespace Go.Proofs.YtbmcngoeinginaaGreatDoor
open Go Go.RowKit
theorem own_fresh (W : World) (e : TypeId) (size : Nat) : (W.alloc (.cells #[] e)).ownsRow W.heap.size e size (.slice (some ⟨W.heap.size, 0, none⟩) 0 0) 0 [] := by
 have := World.ownsRow_made (base := W.heap.size) (e := e) (size := size) W #[] 0 (Nat.le_refl _) (by unfold maxLen; omega) (by simp)
 simpa using this
theorem KindsIn.row {n : Nat} {W : World} {a : Option Addr} {ks : List KindD} (h : KindsIn n W a ks) (h1 : 1 ≤ ks.length) :
   ∃ b off pvs, a = some ⟨b, off, none⟩ ∧ b < n ∧ pvs.length = ks.length ∧ (∀ j, j < ks.length * 3 → W.cell? ⟨b, off + j, none⟩ = (flatK ks pvs)[j]?) ∧ ∀ i (hi : i < ks.length), ∃ aj cj, pvs[i]? = some (.slice aj (ks[i]'hi).progs.length cj) ∧ ProgsIn n W aj (ks[i]'hi).progs := by
 rcases h with rfl | ⟨b, off, e, hn, hc⟩
 · simp at h1
 · obtain ⟨f, hf⟩ : ∃ f : Nat → Value, ∀ i (hi : i < ks.length), ∃ aj cj, f i = .slice aj (ks[i]'hi).progs.length cj ∧ W.cell? ⟨b, off + i * 3 + 1, none⟩ = some (f i) ∧ ProgsIn n W aj (ks[i]'hi).progs := by
     refine ⟨fun i => (W.cell? ⟨b, off + i * 3 + 1, none⟩).getD undef, fun i hi => ?_⟩;obtain ⟨_, ⟨aj, cj, h2, h3⟩, _⟩ := hc i hi;exact ⟨aj, cj, by simp only [h2, Option.getD_some], by simp only [h2, Option.getD_some], h3⟩
   refine ⟨b, off, (List.range ks.length).map f, e, hn, by simp, fun j hj => ?_, fun i hi => ?_⟩
   · obtain ⟨i, r, rfl, hr⟩ : ∃ i r, j = i * 3 + r ∧ r < 3 := ⟨j / 3, j % 3, by omega, by omega⟩
     have hi : i < ks.length := by omega
     obtain ⟨k0, _, k2⟩ := hc i hi;obtain ⟨f1, f2, f3⟩ := flatK_at ks ((List.range ks.length).map f) i hi (by simp);obtain ⟨aj, cj, _, hcell, _⟩ := hf i hi;rw [← Nat.add_assoc]
     rcases (show r = 0 ∨ r = 1 ∨ r = 2 by omega) with rfl | rfl | rfl
     · rw [Nat.add_zero, Nat.add_zero, k0, f1]
     · rw [hcell, f2]; simp [hi]
     · rw [k2, f3]
   · obtain ⟨aj, cj, hv, _, hp⟩ := hf i hi
     exact ⟨aj, cj, by simp [hi, hv], hp⟩
def KRow (h : Nat) (W : World) (v : Value) (ks : List KindD) (pvs : List Value) : Prop :=
 pvs.length = ks.length ∧ W.ownsRow h 63 3 v ks.length (flatK ks pvs) ∧ ∀ i (hi : i < ks.length), ∃ aj cj, pvs[i]? = some (.slice aj (ks[i]'hi).progs.length cj) ∧ ProgsIn W.heap.size W aj (ks[i]'hi).progs
theorem KRow.in_ {h : Nat} {W : World} {v : Value} {ks : List KindD} {pvs : List Value} (hk : KRow h W v ks pvs) : ∃ a cap, v = .slice a ks.length cap ∧ KindsIn W.heap.size W a ks := by
 obtain ⟨hl, ho, hp⟩ := hk
 rcases own_form ho with ⟨rfl, e⟩ | ⟨g, cap, rfl, _, hlt, hc⟩
 · exact ⟨none, 0, by rw [e], .inl (List.length_eq_zero_iff.1 e)⟩
 · refine ⟨_, cap, rfl, .inr ⟨g, 0, rfl, hlt, fun i hi => ?_⟩⟩
   obtain ⟨h1, h2, h3⟩ := flatK_at ks pvs i hi hl;obtain ⟨a, c, e, hq⟩ := hp i hi;rw [Nat.zero_add, hc _ (by omega), hc _ (by omega), hc _ (by omega)];exact ⟨h1, ⟨a, c, h2.trans e, hq⟩, h3⟩
end Go.Proofs.YtbmcngoeinginaaGreatDoor
