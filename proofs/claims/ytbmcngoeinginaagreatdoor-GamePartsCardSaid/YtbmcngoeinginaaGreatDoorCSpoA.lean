/-
 Appends of a whole list to an empty one; kinds as a row of the call's own.
-/
import Derived.Test.YtbmcngoeinginaaGreatDoorCLns
import Derived.Test.YtbmcngoeinginaaGreatDoorCRea
import Derived.Deep.AppendSrc
import Derived.Deep.AppendLies
import Derived.Deep.Upon
namespace Go.Proofs.YtbmcngoeinginaaGreatDoor
open Go Go.RowKit
theorem wpList_spread {w : World} {ops : Array Oper} {rest : List Oper} {o : Oper} {a : Act} {Q : Exit → Act → World → Prop} (hgd : o.guard = none) (t e : TypeId) (z : Value) (size bytes : Nat) (ht : Tryz.prog.underlying t = some (.slice e))
   (hinfo : (Tryz.prog.info? e).map (fun i => (i.zero, i.size, i.bytes)) = some (some z, size, bytes)) (hzs : z.cells.size = size) (hsz : 0 < size) (hby : bytes ≤ 1000) (s y : Operand)
   (ho : o.op = .call { callee := .builtin .append, args := #[s, y], argTypes := #[t, t] }) (n E : Nat) (hs : a.eval s = .slice (some ⟨E, 0, none⟩) 0 0) (h : w.ownsRow n e size (.slice (some ⟨E, 0, none⟩) 0 0) 0 []) (hn : n ≤ w.heap.size)
   (ad : Option Addr) (m c : Nat) (news : List Value) (hy : a.eval y = .slice ad m c) (hl : news.length = m * size) (hm : m ≤ 1000) (hc : m = 0 ∨ ∃ b off, ad = some ⟨b, off, none⟩ ∧ ∀ j, j < m * size → w.cell? ⟨b, off + j, none⟩ = news[j]?) (h1 : ∀ u ∈ news, u.oneCell' = true)
   (hK : ∀ g cap w', w'.ownsRow n e size (.slice (some ⟨g, 0, none⟩) m cap) m news → w.grownBy w' (some E) → (g = E ∨ g = w.heap.size) → wpList Tryz.prog ops Q rest (a.put o.dst (.slice (some ⟨g, 0, none⟩) m cap)) w') :
   wpList Tryz.prog ops Q (o :: rest) a w :=
 wpList_plain hgd fun K hK' => by
   obtain ⟨i0, hi, hz0, hz1, hz2⟩ := info_parts hinfo
   cases ad with
   | none =>
     have hm0 : m = 0 := by
       rcases hc with h | ⟨b, off, e, _⟩
       · exact h
       · cases e
     subst hm0
     have hnil : news = [] := List.length_eq_zero_iff.1 (by omega)
     subst hnil
     have hr := run_append_nothing (P := Tryz.prog) w t t o.type e i0 ht hi (some ⟨E, 0, none⟩) 0 0 (Nat.le_refl _) (.slice none 0 c) (Src.ofNil w ht c)
     unfold Oper.wp
     simp [execOp, ho, resolve, invoke, builtin, hs, hy, hr, Result.andThen]
     exact hK' _ _ (hK E 0 w h ⟨rfl, rfl, rfl, Nat.le_refl _, fun _ _ _ => rfl⟩ (.inl rfl))
   | some ad =>
     obtain ⟨v', w', hr, h2, h3, h4, h5⟩ := run_append_own_at (P := Tryz.prog) w n t o.type e i0 z size bytes ht hi hz0 hz1 hz2 hzs hsz (.slice (some ⟨E, 0, none⟩) 0 0) 0 [] h ad m c news hl
       (by intro j u hj
           rcases hc with h | ⟨b, off, e, hcl⟩
           · subst h
             rw [List.length_eq_zero_iff.1 (show news.length = 0 by omega)] at hj
             cases hj
           · cases e
             have hjl := (List.getElem?_eq_some_iff.1 hj).1
             have e2 : (⟨b, off, none⟩ : Addr).add j = ⟨b, off + j, none⟩ := by by_cases h : j = 0 <;> simp [Addr.add, h]
             rw [e2, hcl j (by omega), hj]) h1 (by unfold maxLen; omega)
       (Nat.le_trans (Nat.mul_le_mul (show 0 + m ≤ 1000 by omega) hby) (by omega)) hn
     rw [Nat.zero_add, List.nil_append] at h2
     obtain ⟨g, cap, hv⟩ : ∃ g cap, v' = .slice (some ⟨g, 0, none⟩) m cap := by
       rcases h2.2 with ⟨hv, _⟩ | ⟨g, cap, _, hv, _⟩
       · have := (h4.1 hv).1
         cases this
       · exact ⟨g, cap, hv⟩
     subst hv
     have h9 := hK' _ _ (hK g cap w' h2 h3 (by
       rcases h5 with h | h
       · left; simpa [Value.ownBlock] using h
       · right; simpa [Value.ownBlock] using h))
     unfold Oper.wp
     simp [execOp, ho, resolve, invoke, builtin, hs, hy, hr, Result.andThen]
     exact h9
theorem own_fresh (W : World) (e : TypeId) (size : Nat) : (W.alloc (.cells #[] e)).ownsRow W.heap.size e size (.slice (some ⟨W.heap.size, 0, none⟩) 0 0) 0 [] := by
 have := World.ownsRow_made (base := W.heap.size) (e := e) (size := size) W #[] 0 (Nat.le_refl _) (by unfold maxLen; omega) (by simp)
 simpa using this
theorem KindsIn.row {n : Nat} {W : World} {a : Option Addr} {ks : List KindD} (h : KindsIn n W a ks) (h1 : 1 ≤ ks.length) :
   ∃ b off pvs, a = some ⟨b, off, none⟩ ∧ b < n ∧ pvs.length = ks.length ∧ (∀ j, j < ks.length * 3 → W.cell? ⟨b, off + j, none⟩ = (flatK ks pvs)[j]?) ∧ ∀ i (hi : i < ks.length), ∃ aj cj, pvs[i]? = some (.slice aj (ks[i]'hi).progs.length cj) ∧ ProgsIn n W aj (ks[i]'hi).progs := by
 rcases h with rfl | ⟨b, off, e, hn, hc⟩
 · simp at h1
 · obtain ⟨f, hf⟩ : ∃ f : Nat → Value, ∀ i (hi : i < ks.length), ∃ aj cj, f i = .slice aj (ks[i]'hi).progs.length cj ∧ W.cell? ⟨b, off + i * 3 + 1, none⟩ = some (f i) ∧ ProgsIn n W aj (ks[i]'hi).progs := by
     refine ⟨fun i => (W.cell? ⟨b, off + i * 3 + 1, none⟩).getD undef, fun i hi => ?_⟩
     obtain ⟨_, ⟨aj, cj, h2, h3⟩, _⟩ := hc i hi
     exact ⟨aj, cj, by simp only [h2, Option.getD_some], by simp only [h2, Option.getD_some], h3⟩
   refine ⟨b, off, (List.range ks.length).map f, e, hn, by simp, fun j hj => ?_, fun i hi => ?_⟩
   · obtain ⟨i, r, rfl, hr⟩ : ∃ i r, j = i * 3 + r ∧ r < 3 := ⟨j / 3, j % 3, by omega, by omega⟩
     have hi : i < ks.length := by omega
     obtain ⟨k0, _, k2⟩ := hc i hi
     obtain ⟨f1, f2, f3⟩ := flatK_at ks ((List.range ks.length).map f) i hi (by simp)
     obtain ⟨aj, cj, _, hcell, _⟩ := hf i hi
     rw [← Nat.add_assoc]
     rcases (show r = 0 ∨ r = 1 ∨ r = 2 by omega) with rfl | rfl | rfl
     · rw [Nat.add_zero, Nat.add_zero, k0, f1]
     · rw [hcell, f2]; simp [hi]
     · rw [k2, f3]
   · obtain ⟨aj, cj, hv, _, hp⟩ := hf i hi
     exact ⟨aj, cj, by simp [hi, hv], hp⟩
theorem flatK_one (ks : List KindD) (ps : List Value) (h : ∀ (i : Nat) (v : Value), ps[i]? = some v → v.oneCell' = true) : ∀ u ∈ flatK ks ps, u.oneCell' = true := by
 induction ks generalizing ps with
 | nil => intro u hu; simp [flatK] at hu
 | cons k ks ih =>
   cases ps with
   | nil => intro u hu; simp [flatK] at hu
   | cons p ps =>
     intro u hu
     simp only [flatK, List.mem_cons] at hu
     rcases hu with rfl | rfl | rfl | hu
     · rfl
     · exact h 0 _ rfl
     · rfl
     · exact ih ps (fun i v hv => h (i + 1) v hv) u hu
theorem flatK_len (ks : List KindD) (ps : List Value) (h : ps.length = ks.length) : (flatK ks ps).length = ks.length * 3 := by
 induction ks generalizing ps with
 | nil => simp [flatK]
 | cons k ks ih =>
   cases ps with
   | nil => simp at h
   | cons p ps => simp only [flatK, List.length_cons, ih ps (by simpa using h)]; omega
def KRow (h : Nat) (W : World) (v : Value) (ks : List KindD) (pvs : List Value) : Prop :=
 pvs.length = ks.length ∧ W.ownsRow h 63 3 v ks.length (flatK ks pvs) ∧ ∀ i (hi : i < ks.length), ∃ aj cj, pvs[i]? = some (.slice aj (ks[i]'hi).progs.length cj) ∧ ProgsIn W.heap.size W aj (ks[i]'hi).progs
theorem KRow.in_ {h : Nat} {W : World} {v : Value} {ks : List KindD} {pvs : List Value} (hk : KRow h W v ks pvs) : ∃ a cap, v = .slice a ks.length cap ∧ KindsIn W.heap.size W a ks := by
 obtain ⟨hl, ho, hp⟩ := hk
 rcases own_form ho with ⟨rfl, e⟩ | ⟨g, cap, rfl, _, hlt, hc⟩
 · exact ⟨none, 0, by rw [e], .inl (List.length_eq_zero_iff.1 e)⟩
 · refine ⟨_, cap, rfl, .inr ⟨g, 0, rfl, hlt, fun i hi => ?_⟩⟩
   obtain ⟨h1, h2, h3⟩ := flatK_at ks pvs i hi hl
   obtain ⟨a, c, e, hq⟩ := hp i hi
   rw [Nat.zero_add, hc _ (by omega), hc _ (by omega), hc _ (by omega)]
   exact ⟨h1, ⟨a, c, h2.trans e, hq⟩, h3⟩
end Go.Proofs.YtbmcngoeinginaaGreatDoor
