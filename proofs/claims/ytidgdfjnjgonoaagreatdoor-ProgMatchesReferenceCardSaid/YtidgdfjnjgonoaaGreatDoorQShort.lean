/-
  short of the laws.
-/
import Derived.Test.YtidgdfjnjgonoaaGreatDoorPushO
import Derived.Deep.Upon
namespace Go.Proofs.YtidgdfjnjgonoaaGreatDoor
open Go Go.RowKit Go.Sort

/-- Of the second argument's type it matters alone that it is a slice's. -/
theorem run_append_kind (t tx ty e1 e2 : TypeId) (ht : Tryz.prog.underlying t = some (.slice e1)) (hx : Tryz.prog.underlying tx = some (.slice e2)) (v x : Value) (w : World) :
    (Builtin.append_ #[t, tx] ty #[v, x]).run Tryz.prog w = (Builtin.append_ #[t, t] ty #[v, x]).run Tryz.prog w := by
  cases v <;> simp [Builtin.append_, run_underlying ht, run_underlying hx, Sem.run_bind]
theorem wpList_pushX {w : World} {ops : Array Oper} {rest : List Oper} {o : Oper} {a : Act} {Q : Exit → Act → World → Prop} (hgd : o.guard = none) (t tx : TypeId) (ht : StepsTy t) (htx : StepsTy tx) (s y : Operand)
    (ho : o.op = .call { callee := .builtin .append, args := #[s, y], argTypes := #[t, tx] }) (n N : Nat) (v : Value) (l : List (Int × Int)) (hs : a.eval s = v) (h : OwnStp n w v l) (hl : l.length < 2000) (hn : n ≤ w.heap.size)
    (b off c k : Nat) (l2 : List (Int × Int)) (hy : a.eval y = .slice (some ⟨b, off, none⟩) k c) (hk : k = l2.length) (hl2 : l2.length < 2000) (hx : Prg N w (some ⟨b, off, none⟩) l2)
    (hK : ∀ v' w', OwnStp n w' v' (l ++ l2) → w.grownBy w' v.ownBlock → wpList Tryz.prog ops Q rest (a.put o.dst v') w') :
    wpList Tryz.prog ops Q (o :: rest) a w :=
  wpList_plain hgd fun K hK' => by
    subst hk
    obtain ⟨v', w', hr, h2, h3, _⟩ := run_pushP t o.type ht n N v l h hl hn b off c l2 hl2 hx
    rw [← run_append_kind t tx o.type _ _ ht htx] at hr
    unfold Oper.wp
    simp [execOp, ho, resolve, invoke, builtin, hs, hy, hr, Result.andThen]
    exact hK' _ _ (hK v' w' h2 h3)
theorem wpList_nothing {w : World} {ops : Array Oper} {rest : List Oper} {o : Oper} {a : Act} {Q : Exit → Act → World → Prop} (hgd : o.guard = none) (t tx : TypeId) (ht : StepsTy t) (htx : StepsTy tx) (s y : Operand)
    (ho : o.op = .call { callee := .builtin .append, args := #[s, y], argTypes := #[t, tx] }) (ad : Option Addr) (n cap : Nat) (hle : n ≤ cap) (hs : a.eval s = .slice ad n cap) (ao : Option Addr) (c : Nat) (hy : a.eval y = .slice ao 0 c)
    (hK : wpList Tryz.prog ops Q rest (a.put o.dst (.slice ad n cap)) w) :
    wpList Tryz.prog ops Q (o :: rest) a w :=
  wpList_plain hgd fun K hK' => by
    obtain ⟨i0, hi, _⟩ := info_parts info_step
    have hsrc : Src Tryz.prog i0.size tx (.slice ao 0 c) 0 [] w := by
      cases ao with
      | none => exact Src.ofNil w htx c
      | some b => exact Src.ofSlice w htx b 0 c [] (by simp) (fun j u h => by simp at h) (fun u h => by cases h)
    have hr := run_append_nothing (P := Tryz.prog) w t tx o.type 41 i0 ht hi ad n cap hle (.slice ao 0 c) hsrc
    unfold Oper.wp
    simp [execOp, ho, resolve, invoke, builtin, hs, hy, hr, Result.andThen]
    exact hK' _ _ hK

set_option maxRecDepth 100000 in
set_option maxHeartbeats 1000000 in
theorem short_any (raw : List (Int × Int)) (ar : Option Addr) (cr N : Nat) (w : World) (hc : raw.length ≤ cr) (hm : cr ≤ maxLen) (hN : N ≤ w.heap.size) (hP : Prg N w ar raw) :
    Calls Tryz.prog 12 #[.slice ar raw.length cr] w fun e w' => ∃ g cap, e = .returned (.slice (some ⟨g, 0, none⟩) (raw.take 12).length cap) ∧ w.heap.size ≤ g ∧ OwnStp w.heap.size w' (.slice (some ⟨g, 0, none⟩) (raw.take 12).length cap) (raw.take 12) ∧ Below w.heap.size w w' := by
  unfold maxLen at hm
  have ho := ownP_empty w w.heap.size rfl
  have hb : Below w.heap.size w (w.alloc (.cells #[] 41)) := below_alloc (Below.refl _ _) _
  by_cases h0 : raw = []
  · subst h0
    cases ar with
    | none =>
      go_enter Tryz.func12, Tryz.ntmps12
      go_wp2_with (at_builtin; go_loud (refine wpList_nothing rfl 26 23 ty_prog ty_steps (.tmp 3) (.tmp 8) rfl _ 0 0 (Nat.le_refl _) rfl _ _ rfl ?_))
      go_ret
      exact ⟨_, _, rfl, Nat.le_refl _, ho, hb⟩
    | some b =>
      go_enter Tryz.func12, Tryz.ntmps12
      go_wp2_with (at_builtin; go_loud (refine wpList_nothing rfl 26 23 ty_prog ty_steps (.tmp 3) (.tmp 8) rfl _ 0 0 (Nat.le_refl _) rfl _ _ rfl ?_))
      go_ret
      exact ⟨_, _, rfl, Nat.le_refl _, ho, hb⟩
  · obtain ⟨b, off, rfl, hbN, hcl⟩ : ∃ b off, ar = some ⟨b, off, none⟩ ∧ b < N ∧ ∀ j, j < raw.length → w.cell? ⟨b, off + j * 2, none⟩ = some (.int .i64 (raw[j]?.getD (0, 0)).1) ∧ w.cell? ⟨b, off + j * 2 + 1, none⟩ = some (.int .i64 (raw[j]?.getD (0, 0)).2) := by
      rcases hP with h | h
      · exact absurd h h0
      · exact h
    have hT : Prg N w (some ⟨b, off, none⟩) (raw.take 12) := .inr ⟨b, off, rfl, hbN, fun j hj => by
      have h1 : j < 12 ∧ j < raw.length := by rw [List.length_take] at hj; omega
      have h2 : (raw.take 12)[j]? = raw[j]? := by rw [List.getElem?_take, if_pos h1.1]
      rw [h2]
      exact hcl j h1.2⟩
    have hT1 := Lib.hid (hT.up hN hb)
    have h1 : 1 ≤ raw.length := by
      cases raw with
      | nil => exact absurd rfl h0
      | cons x r => simp
    have hRL : (raw.take 12).length = min 12 raw.length := by rw [List.length_take]
    generalize raw.take 12 = R at *
    clear hT hP hcl h0
    generalize raw.length = m at *
    have hR12 : R.length ≤ 12 := by omega
    by_cases h12 : m ≤ 12
    · have HR := Lib.hid (show m = R.length by omega)
      have h12' : (m : Int) ≤ 12 := by omega
      have hmc : (m : Int) ≤ (cr : Int) := by omega
      clear hRL h12
      go_enter Tryz.func12, Tryz.ntmps12
      go_wp2_with (at_builtin; go_loud (refine wpList_pushX rfl 26 23 ty_prog ty_steps (.tmp 3) (.tmp 8) rfl w.heap.size N _ [] rfl ho (by simp) hb.size b off cr _ R rfl HR.out (by omega) hT1.out ?_; intro v8 w8 ho8 hg8))
      have hb8 := pushP_below hb hb.size ho hg8
      rw [List.nil_append] at ho8
      obtain ⟨g, cap, rfl, hg1, hg2⟩ := ho8.some_of (by have := HR.out; omega)
      go_ret
      exact ⟨g, cap, rfl, hg1, ho8, hb8⟩
    · have HR := Lib.hid (show 12 = R.length by omega)
      have h12' : (12 : Int) < (m : Int) := by omega
      have hmc : (12 : Int) ≤ (cr : Int) := by omega
      clear hRL h12
      go_enter Tryz.func12, Tryz.ntmps12
      go_wp2_with (at_builtin; go_loud (refine wpList_pushX rfl 26 23 ty_prog ty_steps (.tmp 3) (.tmp 8) rfl w.heap.size N _ [] rfl ho (by simp) hb.size b off cr _ R rfl HR.out (by omega) hT1.out ?_; intro v8 w8 ho8 hg8))
      have hb8 := pushP_below hb hb.size ho hg8
      rw [List.nil_append] at ho8
      obtain ⟨g, cap, rfl, hg1, hg2⟩ := ho8.some_of (by have := HR.out; omega)
      go_ret
      exact ⟨g, cap, rfl, hg1, ho8, hb8⟩
end Go.Proofs.YtidgdfjnjgonoaaGreatDoor
