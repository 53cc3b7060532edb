/-
  'p = append(p, q...)', p of steps and the call's own.
-/
import Derived.Test.YtidgdfjnjgonoaaGreatDoorPStp
import Derived.Maps.AppendAt
import Derived.Maps.OwnIn
namespace Go.Proofs.YtidgdfjnjgonoaaGreatDoor
open Go Go.RowKit

/-- The types whose values are slices of steps. -/
def StepsTy (t : TypeId) : Prop := Tryz.prog.underlying t = some (.slice 41)
theorem ty_prog : StepsTy 26 := Tryz.underlying26
theorem ty_steps : StepsTy 23 := Tryz.underlying23

theorem ownP_empty (W : World) (b : Nat) (hb : b = W.heap.size) : OwnStp W.heap.size (W.alloc (.cells #[] 41)) (.slice (some ⟨b, 0, none⟩) 0 0) [] := by
  subst hb
  exact ⟨rfl, .inr ⟨W.heap.size, 0, #[], rfl, Nat.le_refl _, World.alloc_heap_new _ _, Nat.le_refl _, by unfold maxLen; omega, rfl, rfl⟩⟩
theorem ownP_lit (W : World) (b : Nat) (x y : Int) (hb : b = W.heap.size) : OwnStp W.heap.size (W.alloc (.cells #[.int .i64 x, .int .i64 y] 41)) (.slice (some ⟨b, 0, none⟩) 1 1) [(x, y)] := by
  subst hb
  exact ⟨rfl, .inr ⟨W.heap.size, 1, #[.int .i64 x, .int .i64 y], rfl, Nat.le_refl _, World.alloc_heap_new _ _, Nat.le_refl _, by unfold maxLen; omega, rfl, rfl⟩⟩
theorem prg_lit (W : World) (b : Nat) (x y : Int) (hb : b = W.heap.size) : Prg (W.alloc (.cells #[.int .i64 x, .int .i64 y] 41)).heap.size (W.alloc (.cells #[.int .i64 x, .int .i64 y] 41)) (some ⟨b, 0, none⟩) [(x, y)] := by
  obtain ⟨a, c, e, h⟩ := (ownP_lit W b x y hb).prg
  cases e
  exact h

theorem run_pushP {w : World} (t ty : TypeId) (ht : StepsTy t) (n N : Nat) (v : Value) (l : List (Int × Int)) (h : OwnStp n w v l) (hl : l.length < 2000) (hn : n ≤ w.heap.size)
    (b off c : Nat) (l2 : List (Int × Int)) (hl2 : l2.length < 2000) (hx : Prg N w (some ⟨b, off, none⟩) l2) :
    ∃ v' w', (Builtin.append_ #[t, t] ty #[v, .slice (some ⟨b, off, none⟩) l2.length c]).run Tryz.prog w = .ok v' w' ∧ OwnStp n w' v' (l ++ l2) ∧ w.grownBy w' v.ownBlock ∧ (v'.ownBlock = v.ownBlock ∨ v'.ownBlock = some w.heap.size) := by
  obtain ⟨i0, hi, hz0, hz1, hz2⟩ := info_parts info_step
  obtain ⟨v', w', hr, h2, h3, _, h5⟩ := run_append_own_at (P := Tryz.prog) w n t ty 41 i0 (.agg #[.int .i64 0, .int .i64 0]) 2 16 ht hi hz0 hz1 hz2 rfl (by decide) v l.length (flatP l) h ⟨b, off, none⟩ l2.length c (flatP l2) (flatP_len l2)
    (by intro j u hj
        have hjl : j < l2.length * 2 := by have := (List.getElem?_eq_some_iff.1 hj).1; rwa [flatP_len] at this
        have e : (⟨b, off, none⟩ : Addr).add j = ⟨b, off + j, none⟩ := by by_cases h : j = 0 <;> simp [Addr.add, h]
        have hj2 : j / 2 < l2.length := by omega
        obtain ⟨b', off', e', _, c1, c2⟩ := hx.at_ hj2
        cases e'
        obtain ⟨f1, f2⟩ := flatP_get l2 (j / 2) hj2
        rw [e]
        have hm : j = j / 2 * 2 ∨ j = j / 2 * 2 + 1 := by omega
        rcases hm with hm | hm
        · rw [hm] at hj ⊢
          rw [← hj, f1]; exact c1
        · rw [hm] at hj ⊢
          rw [← hj, f2]; exact c2) (flatP_one l2) (by unfold maxLen; omega) (by omega) hn
  refine ⟨v', w', hr, ?_, h3, h5⟩
  unfold OwnStp
  rw [List.length_append, flatP_app]
  exact h2

theorem step_pushP {w : World} {ops : Array Oper} {o : Oper} {a : Act} {K : Act → World → Prop} {Q : Exit → Act → World → Prop} {E : Prop} (hgd : o.guard = none) (t : TypeId) (ht : StepsTy t) (s y : Operand)
    (ho : o.op = .call { callee := .builtin .append, args := #[s, y], argTypes := #[t, t] }) (n N : Nat) (v : Value) (l : List (Int × Int)) (hs : a.eval s = v) (h : OwnStp n w v l) (hl : l.length < 2000) (hn : n ≤ w.heap.size)
    (b off c k : Nat) (l2 : List (Int × Int)) (hy : a.eval y = .slice (some ⟨b, off, none⟩) k c) (hk : k = l2.length) (hl2 : l2.length < 2000) (hx : Prg N w (some ⟨b, off, none⟩) l2)
    (hK : ∀ v' w', OwnStp n w' v' (l ++ l2) → w.grownBy w' v.ownBlock → K (a.put o.dst v') w') :
    if Region.wanted o (yielded ops a.tmps) = true then Oper.wp Tryz.prog o a w K Q else E := by
  have hw : Region.wanted o (yielded ops a.tmps) = true := by simp [Region.wanted, hgd]
  rw [if_pos hw]
  subst hk
  obtain ⟨v', w', hr, h2, h3, h5⟩ := run_pushP t o.type ht n N v l h hl hn b off c l2 hl2 hx
  unfold Oper.wp
  simp [execOp, ho, resolve, invoke, builtin, hs, hy, hr, Result.andThen]
  exact hK v' w' h2 h3

theorem wpList_pushP {w : World} {ops : Array Oper} {rest : List Oper} {o : Oper} {a : Act} {Q : Exit → Act → World → Prop} (hgd : o.guard = none) (t : TypeId) (ht : StepsTy t) (s y : Operand)
    (ho : o.op = .call { callee := .builtin .append, args := #[s, y], argTypes := #[t, t] }) (n N : Nat) (v : Value) (l : List (Int × Int)) (hs : a.eval s = v) (h : OwnStp n w v l) (hl : l.length < 2000) (hn : n ≤ w.heap.size)
    (b off c k : Nat) (l2 : List (Int × Int)) (hy : a.eval y = .slice (some ⟨b, off, none⟩) k c) (hk : k = l2.length) (hl2 : l2.length < 2000) (hx : Prg N w (some ⟨b, off, none⟩) l2)
    (hK : ∀ v' w', OwnStp n w' v' (l ++ l2) → w.grownBy w' v.ownBlock → wpList Tryz.prog ops Q rest (a.put o.dst v') w') :
    wpList Tryz.prog ops Q (o :: rest) a w :=
  wpList_plain hgd fun K hK' => by
    have h2 := step_pushP (w := w) (ops := ops) (Q := Q) (K := K) (E := True) hgd t ht s y ho n N v l hs h hl hn b off c k l2 hy hk hl2 hx (fun v' w' h1 h2 => hK' _ _ (hK v' w' h1 h2))
    rw [if_pos (by simp [Region.wanted, hgd])] at h2
    exact h2

theorem OwnStp.row {n : Nat} {W : World} {v : Value} {l : List (Int × Int)} (h : OwnStp n W v l) {k : Nat} (hk : some k = v.ownBlock) : n ≤ k ∧ k < W.heap.size := World.ownsRow.lt h k hk.symm
theorem pushP_below {h : Nat} {w4 W W6 : World} {v : Value} {l : List (Int × Int)} (hb : Below h w4 W) (hs : h ≤ W.heap.size) (ho : OwnStp h W v l) (hg : W.grownBy W6 v.ownBlock) : Below h w4 W6 :=
  hb.trans ((Alters.of_grown hg).below hs (fun _ hk => (ho.row hk).1))
theorem OwnStp.some_of {n : Nat} {W : World} {v : Value} {l : List (Int × Int)} (h : OwnStp n W v l) (h1 : 1 ≤ l.length) : ∃ g cap, v = .slice (some ⟨g, 0, none⟩) l.length cap ∧ n ≤ g ∧ g < W.heap.size := by
  rcases h.form with ⟨_, h0⟩ | h2
  · rw [h0] at h1; simp at h1
  · exact h2
/-- The same where all that the call made lies above the world w0; what else was there is as it was. -/
theorem step_pushB {w : World} {ops : Array Oper} {o : Oper} {a : Act} {K : Act → World → Prop} {Q : Exit → Act → World → Prop} {E : Prop} (hgd : o.guard = none) (t : TypeId) (ht : StepsTy t) (s y : Operand)
    (ho : o.op = .call { callee := .builtin .append, args := #[s, y], argTypes := #[t, t] }) (w0 : World) (hb : Below w0.heap.size w0 w) (N : Nat) (v : Value) (l : List (Int × Int)) (hs : a.eval s = v) (h : OwnStp w0.heap.size w v l) (hl : l.length < 2000)
    (b off c k : Nat) (l2 : List (Int × Int)) (hy : a.eval y = .slice (some ⟨b, off, none⟩) k c) (hk : k = l2.length) (hl2 : l2.length < 2000) (hx : Prg N w (some ⟨b, off, none⟩) l2)
    (hK : ∀ v' w', OwnStp w0.heap.size w' v' (l ++ l2) → Below w0.heap.size w0 w' → w.grownBy w' v.ownBlock → K (a.put o.dst v') w') :
    if Region.wanted o (yielded ops a.tmps) = true then Oper.wp Tryz.prog o a w K Q else E :=
  step_pushP hgd t ht s y ho w0.heap.size N v l hs h hl hb.size b off c k l2 hy hk hl2 hx fun v' w' h1 h2 => hK v' w' h1 (pushP_below hb hb.size h h2) h2
theorem wpList_pushB {w : World} {ops : Array Oper} {rest : List Oper} {o : Oper} {a : Act} {Q : Exit → Act → World → Prop} (hgd : o.guard = none) (t : TypeId) (ht : StepsTy t) (s y : Operand)
    (ho : o.op = .call { callee := .builtin .append, args := #[s, y], argTypes := #[t, t] }) (w0 : World) (hb : Below w0.heap.size w0 w) (N : Nat) (v : Value) (l : List (Int × Int)) (hs : a.eval s = v) (h : OwnStp w0.heap.size w v l) (hl : l.length < 2000)
    (b off c k : Nat) (l2 : List (Int × Int)) (hy : a.eval y = .slice (some ⟨b, off, none⟩) k c) (hk : k = l2.length) (hl2 : l2.length < 2000) (hx : Prg N w (some ⟨b, off, none⟩) l2)
    (hK : ∀ v' w', OwnStp w0.heap.size w' v' (l ++ l2) → Below w0.heap.size w0 w' → w.grownBy w' v.ownBlock → wpList Tryz.prog ops Q rest (a.put o.dst v') w') :
    wpList Tryz.prog ops Q (o :: rest) a w :=
  wpList_pushP hgd t ht s y ho w0.heap.size N v l hs h hl hb.size b off c k l2 hy hk hl2 hx fun v' w' h1 h2 => hK v' w' h1 (pushP_below hb hb.size h h2) h2
theorem Prg.grown {N b off : Nat} {w w' : World} {l : List (Int × Int)} {r : Option Nat} (h : Prg N w (some ⟨b, off, none⟩) l) (hN : N ≤ w.heap.size) (hg : w.grownBy w' r) (hne : some b ≠ r) : Prg N w' (some ⟨b, off, none⟩) l := by
  rcases h with h | ⟨b', off', e, hn, hc⟩
  · exact .inl h
  · cases e
    have hk := hg.block b (Nat.lt_of_lt_of_le hn hN) hne
    exact .inr ⟨b, off, rfl, hn, fun j hj => ⟨(World.cell?_of_block (a := ⟨b, off + j * 2, none⟩) hk).trans (hc j hj).1, (World.cell?_of_block (a := ⟨b, off + j * 2 + 1, none⟩) hk).trans (hc j hj).2⟩⟩
theorem Prg.grownH {b off : Nat} {w w' : World} {l : List (Int × Int)} {r : Option Nat} (h : Prg w.heap.size w (some ⟨b, off, none⟩) l) (hg : w.grownBy w' r) (hne : some b ≠ r) : Prg w'.heap.size w' (some ⟨b, off, none⟩) l := (h.grown (Nat.le_refl _) hg hne).mono hg.size
theorem step_pushH {w : World} {ops : Array Oper} {o : Oper} {a : Act} {K : Act → World → Prop} {Q : Exit → Act → World → Prop} {E : Prop} (hgd : o.guard = none) (t : TypeId) (ht : StepsTy t) (s y : Operand)
    (ho : o.op = .call { callee := .builtin .append, args := #[s, y], argTypes := #[t, t] }) (w0 : World) (hb : Below w0.heap.size w0 w) (v : Value) (l : List (Int × Int)) (hs : a.eval s = v) (h : OwnStp w0.heap.size w v l) (hl : l.length < 2000)
    (b off c k : Nat) (l2 : List (Int × Int)) (hy : a.eval y = .slice (some ⟨b, off, none⟩) k c) (hk : k = l2.length) (hl2 : l2.length < 2000) (hx : Prg w.heap.size w (some ⟨b, off, none⟩) l2)
    (hK : ∀ v' w', OwnStp w0.heap.size w' v' (l ++ l2) → Below w0.heap.size w0 w' → w.grownBy w' v.ownBlock → K (a.put o.dst v') w') :
    if Region.wanted o (yielded ops a.tmps) = true then Oper.wp Tryz.prog o a w K Q else E :=
  step_pushB hgd t ht s y ho w0 hb w.heap.size v l hs h hl b off c k l2 hy hk hl2 hx hK
end Go.Proofs.YtidgdfjnjgonoaaGreatDoor
