/-
  A slice of the call's own whose first place may lie inside its block (a queue); the marks of several loops over functions.
-/
import Derived.Test.YtcpjkilnbhfpjaaDoorLib
import Derived.ArgAppend
import Derived.RangeFuncLeaves
import Derived.OwnWalkIn
import Derived.Maps.AppendAt
namespace Go.Proofs.YtcpjkilnbhfpjaaDoor
open Go Go.RowKit

/-- The slice v is of the call's own, from block n on, its block holds numbers, and it holds the numbers l. -/
def OwnQ (n : Nat) (W : World) (v : Value) (l : List Int) : Prop :=
  ∃ g off cap cur, v = .slice (some ⟨g, off, none⟩) l.length cap ∧ n ≤ g ∧ W.heap[g]? = some (.cells cur 3 (0, 0)) ∧ l.length ≤ cap ∧ off + cap ≤ cur.size ∧ ∀ j, j < l.length → cur[off + j]? = some (.int .i64 (l[j]?.getD 0))

theorem OwnInts.cellAt {n : Nat} {W : World} {g k cap : Nat} {l : List Int} (h : OwnInts n W (.slice (some ⟨g, 0, none⟩) k cap) l) {j : Nat} (hj : j < l.length) :
    W.cell? ⟨g, j, none⟩ = some (.int .i64 (l[j]?.getD 0)) ∧ W.frozen? ⟨g, j, none⟩ = false := by
  obtain rfl : k = l.length := by
    rcases h.2 with ⟨h0, _⟩ | ⟨_, _, _, hv, _⟩
    · cases h0
    · cases hv; rfl
  refine ⟨?_, World.ownsRow.frozenAt h j⟩
  rw [World.ownsRow.cellAt h j (by omega)]
  simp [hj]

/-- Behind a store into one of its places. -/
theorem OwnInts.set {n : Nat} {W : World} {g k cap : Nat} {l : List Int} (h : OwnInts n W (.slice (some ⟨g, 0, none⟩) k cap) l) (j : Nat) (x : Int) : OwnInts n (W.setCell ⟨g, j, none⟩ (.int .i64 x)) (.slice (some ⟨g, 0, none⟩) k cap) (l.set j x) := by
  obtain rfl : k = l.length := by
    rcases h.2 with ⟨h0, _⟩ | ⟨_, _, _, hv, _⟩
    · cases h0
    · cases hv; rfl
  rcases h.2 with ⟨h0, _⟩ | ⟨g', cap', cur, hv, hg, hc, hn, hm, hs, ht⟩
  · cases h0
  cases hv
  refine ⟨by simp, .inr ⟨g, cap, cur.setIfInBounds j (.int .i64 x), by simp, hg, ?_, by simpa using hn, hm, by simpa using hs, ?_⟩⟩
  · simp [World.setCell, Array.getElem?_modify, hc]
  · rw [Nat.mul_one] at ht ⊢
    rw [List.length_set, Array.toList_setIfInBounds, List.take_set, ht, List.map_set]

theorem OwnQ.form {n : Nat} {W : World} {v : Value} {l : List Int} (h : OwnQ n W v l) : ∃ g off cap, v = .slice (some ⟨g, off, none⟩) l.length cap := by
  obtain ⟨g, off, cap, cur, rfl, _⟩ := h
  exact ⟨g, off, cap, rfl⟩

theorem OwnQ.kept {n : Nat} {W W' : World} {v : Value} {l : List Int} {row : Option Nat} (h : OwnQ n W v l) (hg : W.grownBy W' row) (hne : ¬ v.ownBlock = row) : OwnQ n W' v l := by
  obtain ⟨g, off, cap, cur, rfl, hn, hc, r⟩ := h
  exact ⟨g, off, cap, cur, rfl, hn, (hg.block g (Array.getElem?_eq_some_iff.1 hc).1 (fun e => hne (by simp [Value.ownBlock, e]))).trans hc, r⟩

theorem OwnQ.alters {n : Nat} {W W' : World} {v : Value} {l : List Int} (h : OwnQ n W v l) {S : Nat → Prop} (ha : Alters S W W') (hS : ∀ k, S k → ¬ some k = v.ownBlock) : OwnQ n W' v l := by
  obtain ⟨g, off, cap, cur, rfl, hn, hc, r⟩ := h
  exact ⟨g, off, cap, cur, rfl, hn, (ha.block g (Array.getElem?_eq_some_iff.1 hc).1 (fun hs => hS g hs rfl)).trans hc, r⟩

theorem OwnQ.lt {n : Nat} {W : World} {v : Value} {l : List Int} (h : OwnQ n W v l) {k : Nat} (hk : some k = v.ownBlock) : n ≤ k ∧ k < W.heap.size := by
  obtain ⟨g, off, cap, cur, rfl, hn, hc, r⟩ := h
  obtain rfl : k = g := by simpa [Value.ownBlock] using hk
  exact ⟨hn, (Array.getElem?_eq_some_iff.1 hc).1⟩

theorem OwnQ.not_box {n : Nat} {W : World} {v : Value} {l : List Int} (h : OwnQ n W v l) {B : Nat} {t : TypeId} {u : Value} (hb : Boxed W B t u) (ht : t ≠ 3) : ¬ some B = v.ownBlock := by
  intro e
  obtain ⟨g, off, cap, cur, rfl, hn, hc, r⟩ := h
  obtain rfl : B = g := by simpa [Value.ownBlock] using e
  have : W.heap[B]? = _ := hb
  rw [this] at hc; cases hc; exact ht rfl

theorem OwnQ.not_cells {n : Nat} {W : World} {v : Value} {l : List Int} (h : OwnQ n W v l) {D : Nat} {o : Obj} (hD : W.heap[D]? = some o) (ho : o.isCells = false) : ¬ some D = v.ownBlock := by
  intro e
  obtain ⟨g, off, cap, cur, rfl, hn, hc, r⟩ := h
  obtain rfl : D = g := by simpa [Value.ownBlock] using e
  rw [hD] at hc; cases hc; cases ho

theorem OwnQ.at_ {n : Nat} {W : World} {v : Value} {x : Int} {l : List Int} (h : OwnQ n W v (x :: l)) : ∃ g off cap, v = .slice (some ⟨g, off, none⟩) (l.length + 1) cap ∧ l.length + 1 ≤ cap ∧ W.cell? ⟨g, off, none⟩ = some (.int .i64 x) ∧
    OwnQ n W (.slice (some ⟨g, if cap = 1 then off else off + 1, none⟩) l.length (cap - 1)) l := by
  obtain ⟨g, off, cap, cur, rfl, hn, hc, h1, h2, h3⟩ := h
  simp only [List.length_cons] at h1 h3
  refine ⟨g, off, cap, by simp, h1, ?_, ?_⟩
  · have := h3 0 (by omega)
    unfold World.cell?
    rw [hc]
    simpa using this
  · by_cases e : cap = 1
    · rw [if_pos e]
      have hl : l = [] := List.eq_nil_of_length_eq_zero (by omega)
      subst hl
      exact ⟨g, off, cap - 1, cur, rfl, hn, hc, by simp, by omega, fun j hj => by simp at hj⟩
    · rw [if_neg e]
      refine ⟨g, off + 1, cap - 1, cur, rfl, hn, hc, by omega, by omega, fun j hj => ?_⟩
      have := h3 (j + 1) (by omega)
      rw [show off + 1 + j = off + (j + 1) by omega, this]
      simp

theorem run_append_q {n : Nat} {w : World} {v : Value} {l : List Int} (h : OwnQ n w v l) (hl : l.length < 1000) (hn : n ≤ w.heap.size) (ty : TypeId) (a : Addr) (x : Int) (ha : w.cell? a = some (.int .i64 x)) :
    ∃ v' w', (Builtin.append_ #[29, 29] ty #[v, .slice (some a) 1 1]).run Tryd.prog w = .ok v' w' ∧ OwnQ n w' v' (l ++ [x]) ∧ w.grownBy w' v.ownBlock ∧ (v'.ownBlock = v.ownBlock ∨ ∃ k, v'.ownBlock = some k ∧ w.heap.size ≤ k) := by
  obtain ⟨i0, hi, hz0, hz1, hz2⟩ := info_parts (show (Tryd.prog.info? 3).map (fun i => (i.zero, i.size, i.bytes)) = some (some (.int .i64 0), 1, 8) by kernel_rfl)
  obtain ⟨g, off, cap, cur, rfl, hng, hc, h1, h2, h3⟩ := h
  have hnews : ∀ j u, [Value.int .i64 x][j]? = some u → w.cell? (a.add j) = some u := by
    intro j u hj
    cases j with
    | zero => simp at hj; subst hj; simpa [Addr.add] using ha
    | succ j => simp at hj
  by_cases hroom : l.length + 1 ≤ cap
  · have hrun := run_append_room_cells (P := Tryd.prog) w 29 ty 3 i0 Tryd.underlying29 hi g off l.length cap a 1 1 [.int .i64 x] (by simp [hz1]) hnews (by simp [Value.oneCell']) hroom
      (fun j hj => by
        obtain rfl : j = 0 := by simpa using hj
        unfold World.cell?; rw [hc]; simp [hz1]; omega)
      (fun j hj => by unfold World.frozen?; rw [hc]; simp)
    refine ⟨_, _, hrun, ?_, ?_, .inl rfl⟩
    · rw [hz1, Nat.mul_one]
      refine ⟨g, off, cap, cur.setIfInBounds (off + l.length) (.int .i64 x), by simp, hng, ?_, by simpa using hroom, by simpa using h2, fun j hj => ?_⟩
      · simp [World.setCells, World.setCell, Array.getElem?_modify, hc]
      · simp only [List.length_append, List.length_singleton] at hj
        by_cases e : j = l.length
        · subst e
          rw [Array.getElem?_setIfInBounds_self_of_lt (by omega)]
          simp
        · rw [Array.getElem?_setIfInBounds_ne (by omega), h3 j (by omega), List.getElem?_append_left (by omega)]
    · rw [hz1, Nat.mul_one]
      refine ⟨rfl, rfl, rfl, by simp [World.setCells, World.setCell], fun k _ hk => Below.heap_setCell _ _ _ _ (fun e => hk (by simp [Value.ownBlock, e]))⟩
  · obtain ⟨v', w', hrun, r1, r2⟩ := run_append_arg_grows (P := Tryd.prog) w 29 ty 3 i0 (.int .i64 0) 1 8 Tryd.underlying29 hi hz0 hz1 hz2 rfl (by decide) ⟨g, off, none⟩ l.length cap (l.map (Value.int .i64)) (by simp)
      (fun j u hj => by
        have hj' : j < l.length := by have := (List.getElem?_eq_some_iff.1 hj).1; simpa using this
        rw [Addr.add_lit]; unfold World.cell?; rw [hc]
        simp only [Option.isSome_none, Bool.false_eq_true, if_false]
        rw [h3 j hj', ← hj]
        simp [hj'])
      a 1 1 [.int .i64 x] rfl hnews (by omega) (by unfold maxLen; omega) (by omega)
    refine ⟨v', w', hrun, ?_, ⟨r2.os, r2.tape, r2.output, r2.size, fun k hk _ => r2.block k hk (by simp)⟩, ?_⟩
    · rcases r1.2 with ⟨_, h0⟩ | ⟨g', cap', cur', rfl, hg', hc', hn', _, hs', ht'⟩
      · omega
      refine ⟨g', 0, cap', cur', by simp, by omega, hc', by simpa using hn', by omega, fun j hj => ?_⟩
      simp only [List.length_append, List.length_singleton] at hj
      have e := congrArg (fun L : List Value => L[j]?) ht'
      simp only [Nat.mul_one] at e
      rw [List.getElem?_take_of_lt hj, Array.getElem?_toList] at e
      rw [Nat.zero_add, e]
      by_cases ej : j = l.length
      · subst ej; simp
      · rw [List.getElem?_append_left (by simp; omega), List.getElem?_append_left (by omega)]
        simp [show j < l.length by omega]
    · rcases r1.2 with ⟨_, h0⟩ | ⟨g', cap', cur', rfl, hg', hc', _⟩
      · omega
      exact .inr ⟨g', rfl, hg'⟩

/-- At the operation, for the walk. -/
theorem wpListIn_append_q {F : Fence} {nF : Nat} {w : World} {ops : Array Oper} {rest : List Oper} {o : Oper} {a : Act} {Q : Exit → Act → World → Prop} (hgd : o.guard = none) (s y : Operand)
    (ho : o.op = .call { callee := .builtin .append, args := #[s, y], argTypes := #[29, 29] }) (n : Nat) (v : Value) (l : List Int) (hs : a.eval s = v) (h : OwnQ n w v l) (hl : l.length < 1000) (hn : n ≤ w.heap.size)
    (ad : Addr) (x : Int) (hy : a.eval y = .slice (some ad) 1 1) (hx : w.cell? ad = some (.int .i64 x))
    (hK : ∀ v' w', OwnQ n w' v' (l ++ [x]) → w.grownBy w' v.ownBlock → (v'.ownBlock = v.ownBlock ∨ ∃ k, v'.ownBlock = some k ∧ w.heap.size ≤ k) → wpListIn F nF Tryd.prog ops Q rest (a.put o.dst v') w') :
    wpListIn F nF Tryd.prog ops Q (o :: rest) a w := by
  refine wpListIn_plain hgd fun K hK' => ?_
  obtain ⟨v', w', hr, h2, h3, h4⟩ := run_append_q h hl hn o.type ad x hx
  unfold Oper.wpIn
  refine ⟨by simp [Oper.about, ho, resolve, Target.leads, Sem.run_pure], ?_⟩
  rw [Oper.semAt_plain F _ _ (by rw [ho]; intro c hc'; cases hc')]
  simp [execOp, ho, resolve, invoke, builtin, hs, hy, hr, Result.andThen]
  exact hK' _ _ (hK v' w' h2 h3 h4)

theorem least_of {p : Nat → Prop} (h : ∃ j, p j) : ∃ j, p j ∧ ∀ i, p i → j ≤ i := by
  obtain ⟨j, hj⟩ := h
  induction j using Nat.strongRecOn with
  | _ j ih =>
    by_cases hx : ∃ i, i < j ∧ p i
    · obtain ⟨i, hi, hp⟩ := hx
      exact ih i hi hp
    · exact ⟨j, hj, fun i hi => by
        rcases Nat.lt_or_ge i j with hlt | hge
        · exact absurd ⟨i, hlt, hi⟩ hx
        · exact hge⟩

/-- A loop whose measure is a ghost. -/
theorem wpIn_loop_ghost {F : Fence} {n : Nat} {P : Program} {c : Code} {Q : Exit → Act → World → Prop} {a : Act} {w : World} (I : Nat → Act → World → Prop) (j0 : Nat) (h0 : I j0 a w)
    (round : ∀ j a w, I j a w → c.wpIn F n P (Exit.then (fun a' w' => ∃ j', j' < j ∧ I j' a' w') Q) a w) : (Code.loop c).wpIn F n P Q a w := by
  classical
  refine wpIn_loop (fun a w => ∃ j, I j a w) (fun a w => if h : ∃ j, I j a w then Classical.choose (least_of h) else 0) ⟨j0, h0⟩ (fun a w h => ?_)
  refine wpIn_mono (round _ a w (Classical.choose_spec (least_of h)).1) (fun e a' w' hq => ?_)
  cases e with
  | normal =>
    obtain ⟨j', hlt, hj'⟩ := hq
    have h' : ∃ j, I j a' w' := ⟨j', hj'⟩
    refine ⟨h', ?_⟩
    rw [dif_pos h, dif_pos h']
    exact Nat.lt_of_le_of_lt ((Classical.choose_spec (least_of h')).2 j' hj') hlt
  | _ => exact hq

/-- Marks of loops over functions: each is open and empty. -/
def marksOf (Ds : List Nat) : List Deferred := Ds.map fun D => { target := .collected D, args := #[] }

theorem leaves_marks {F : Fence} {n : Nat} {P : Program} {fn : Func} {tmps : Array Value} {R : Ending → World → Prop} : ∀ (Ds : List Nat) (W : World), Ds.Nodup → (∀ D ∈ Ds, W.heap[D]? = some (.deferred (some []))) →
    (∀ W', Alters (fun k => k ∈ Ds) W W' → LeavesIn F n P fn tmps R [] .returning W') → LeavesInM F n P fn tmps R (marksOf Ds) .returning W
  | [], W, _, _, h => h W (Alters.refl _ _)
  | D :: Ds, W, hn, hD, h => by
    have hn' := List.nodup_cons.1 hn
    refine ⟨by simp, .inl ⟨D, _, rfl, run_takeDeferred (hD D (by simp)), ?_⟩⟩
    have hput : Alters (fun k => k ∈ D :: Ds) W (W.putObj D (.deferred none)) := by
      refine (Alters.of_grown (grownBy_putObj' W D (.deferred none))).mono (fun k _ e => ?_)
      have : k = D := by simpa using e
      simp [this]
    refine leaves_marks Ds _ hn'.2 (fun D' h' => ?_) (fun W' hW' => h W' (hput.trans (hW'.mono (fun k _ hk => List.mem_cons_of_mem _ hk))))
    have hne : D' ≠ D := by
      rintro rfl
      exact hn'.1 h'
    exact (World.putObj_heap_other (k := D') (by omega)).trans (hD D' (by simp [h']))
end Go.Proofs.YtcpjkilnbhfpjaaDoor
