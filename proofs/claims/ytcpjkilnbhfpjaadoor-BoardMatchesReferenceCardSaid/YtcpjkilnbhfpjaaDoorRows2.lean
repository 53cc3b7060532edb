/-
  Rows of numbers that the call owns, row by row; a number is appended to one of them.
-/
import Derived.Test.YtcpjkilnbhfpjaaDoorQueue
import Derived.Test.YtcpjkilnbhfpjaaDoorRound
import Derived.Maps.AppendAt
import Derived.Maps.OwnIn
namespace Go.Proofs.YtcpjkilnbhfpjaaDoor
open Go Go.RowKit

theorem step_append_at {w : World} {ops : Array Oper} {o : Oper} {a : Act} {K : Act → World → Prop} {Q : Exit → Act → World → Prop} {E : Prop} (hgd : o.guard = none) (s y : Operand)
    (ho : o.op = .call { callee := .builtin .append, args := #[s, y], argTypes := #[29, 29] }) (n : Nat) (v : Value) (l : List Int) (hs : a.eval s = v) (h : OwnInts n w v l) (hl : l.length < 2000) (hn : n ≤ w.heap.size)
    (ad : Addr) (x : Int) (hy : a.eval y = .slice (some ad) 1 1) (hx : w.cell? ad = some (.int .i64 x))
    (hK : ∀ g cap w', OwnInts n w' (.slice (some ⟨g, 0, none⟩) (l.length + 1) cap) (l ++ [x]) → w.grownBy w' v.ownBlock → (v.ownBlock = some g ∨ g = w.heap.size) → K (a.put o.dst (.slice (some ⟨g, 0, none⟩) (l.length + 1) cap)) w') :
    if Region.wanted o (yielded ops a.tmps) = true then Oper.wp Tryd.prog o a w K Q else E := by
  have hw : Region.wanted o (yielded ops a.tmps) = true := by simp [Region.wanted, hgd]
  rw [if_pos hw]
  obtain ⟨i0, hi, hz0, hz1, hz2⟩ := info_parts (show (Tryd.prog.info? 3).map (fun i => (i.zero, i.size, i.bytes)) = some (some (.int .i64 0), 1, 8) by kernel_rfl)
  obtain ⟨v', w', hr, h2, h3, _, h5⟩ := run_append_own_at (P := Tryd.prog) w n 29 o.type 3 i0 (.int .i64 0) 1 8 Tryd.underlying29 hi hz0 hz1 hz2 rfl (by decide) v l.length (l.map (Value.int .i64)) h ad 1 1 [.int .i64 x] rfl
    (by intro j u hj
        cases j with
        | zero => simp at hj; subst hj; simpa [Addr.add] using hx
        | succ j => simp at hj) (by simp [Value.oneCell']) (by unfold maxLen; omega) (by omega) hn
  obtain ⟨g, cap, rfl⟩ := ownsRow_succ h2
  unfold Oper.wp
  simp [execOp, ho, resolve, invoke, builtin, hs, hy, hr, Result.andThen]
  refine hK g cap w' ⟨by simp, ?_⟩ h3 ?_
  · rcases h2.2 with ⟨h0, _⟩ | ⟨g', cap', cur, hv, r⟩
    · cases h0
    · cases hv
      exact .inr ⟨g, cap, cur, by simp, by simpa using r⟩
  · rcases h5 with h | h
    · left; rw [← h]; rfl
    · right; simpa [Value.ownBlock] using h

/-- Block g holds n slices of the call's own, from block h on; they hold the rows; no two of them share a block. -/
structure OwnRows (h g n : Nat) (G : Value → Prop) (rows : List (List Int)) (vs : List Value) (W : World) : Prop where
  heap : W.heap[g]? = some (.cells vs.toArray 29 (0, 0))
  vlen : vs.length = n
  rlen : rows.length = n
  own : ∀ (i : Nat) v, vs[i]? = some v → OwnInts h W v (rows[i]?.getD [])
  apart : ∀ (i j : Nat) v u, vs[i]? = some v → vs[j]? = some u → i ≠ j → v.ownBlock ≠ none → v.ownBlock ≠ u.ownBlock
  good : ∀ v ∈ vs, G v

theorem OwnRows.cell {h g n : Nat} {G : Value → Prop} {rows : List (List Int)} {vs : List Value} {W : World} (hr : OwnRows h g n G rows vs W) {i : Nat} (hi : i < n) : ∃ v, vs[i]? = some v ∧ W.cell? ⟨g, i, none⟩ = some v ∧ W.frozen? ⟨g, i, none⟩ = false := by
  have hl := hr.vlen
  refine ⟨vs[i], by simp [hl, hi], ?_, ?_⟩
  · unfold World.cell?; rw [hr.heap]; simp [hl, hi]
  · unfold World.frozen?; rw [hr.heap]; simp

theorem OwnRows.not_own {h g n : Nat} {G : Value → Prop} {rows : List (List Int)} {vs : List Value} {W : World} (hr : OwnRows h g n G rows vs W) {i : Nat} {v : Value} (hv : vs[i]? = some v) {B : Nat} {c : Array Value} {t : TypeId} {f : Nat × Nat}
    (hB : W.heap[B]? = some (.cells c t f)) (ht : t ≠ 3) : ¬ some B = v.ownBlock := by
  intro e
  rcases (hr.own i v hv).2 with ⟨rfl, _⟩ | ⟨g', cap, cur, rfl, _, hc, _⟩
  · simp [Value.ownBlock] at e
  · obtain rfl : B = g' := by simpa [Value.ownBlock] using e
    rw [hB] at hc; cases hc; exact ht rfl

theorem OwnRows.alters {h g n : Nat} {G : Value → Prop} {rows : List (List Int)} {vs : List Value} {W W' : World} (hr : OwnRows h g n G rows vs W) {S : Nat → Prop} (ha : Alters S W W') (hg : ¬ S g) (hS : ∀ k, S k → ∀ v ∈ vs, ¬ some k = v.ownBlock) : OwnRows h g n G rows vs W' :=
  ⟨(ha.block g (Array.getElem?_eq_some_iff.1 hr.heap).1 hg).trans hr.heap, hr.vlen, hr.rlen, fun i v hv => (hr.own i v hv).alters ha (fun k hk => hS k hk v (List.mem_of_getElem? hv)), hr.apart, hr.good⟩

theorem OwnRows.mono {h g n : Nat} {G G' : Value → Prop} {rows : List (List Int)} {vs : List Value} {W : World} (hr : OwnRows h g n G rows vs W) (hG : ∀ v ∈ vs, G' v) : OwnRows h g n G' rows vs W :=
  ⟨hr.heap, hr.vlen, hr.rlen, hr.own, hr.apart, hG⟩

/-- Behind 'rows[i] = append(rows[i], x)'. -/
theorem OwnRows.append {h g n : Nat} {G : Value → Prop} {rows : List (List Int)} {vs : List Value} {W W1 : World} (hr : OwnRows h g n G rows vs W) {i : Nat} {v : Value} (hv : vs[i]? = some v) {x : Int} {g' cap : Nat} {tmp : Obj}
    (hown : OwnInts h W1 (.slice (some ⟨g', 0, none⟩) ((rows[i]?.getD []).length + 1) cap) (rows[i]?.getD [] ++ [x])) (hgrow : (W.alloc tmp).grownBy W1 v.ownBlock) (hat : v.ownBlock = some g' ∨ g' = (W.alloc tmp).heap.size)
    (hG : G (.slice (some ⟨g', 0, none⟩) ((rows[i]?.getD []).length + 1) cap)) :
    OwnRows h g n G (rows.set i (rows[i]?.getD [] ++ [x])) (vs.set i (.slice (some ⟨g', 0, none⟩) ((rows[i]?.getD []).length + 1) cap)) (W1.setCell ⟨g, i, none⟩ (.slice (some ⟨g', 0, none⟩) ((rows[i]?.getD []).length + 1) cap)) ∧
      Alters (fun k => k = g ∨ some k = v.ownBlock) W (W1.setCell ⟨g, i, none⟩ (.slice (some ⟨g', 0, none⟩) ((rows[i]?.getD []).length + 1) cap)) := by
  have hi : i < vs.length := (List.getElem?_eq_some_iff.1 hv).1
  have hlv := hr.vlen
  have hlr := hr.rlen
  have hgv := hr.not_own hv hr.heap (by decide)
  have ha1 : Alters (fun k => some k = v.ownBlock) W W1 := (Alters.of_below ((Below.refl _ _).alloc (Nat.le_refl _) tmp)).trans (Alters.of_grown hgrow)
  have hg1 : W1.heap[g]? = some (.cells vs.toArray 29 (0, 0)) := (ha1.block g (Array.getElem?_eq_some_iff.1 hr.heap).1 hgv).trans hr.heap
  have ha2 : Alters (fun k => k = g) W1 (W1.setCell ⟨g, i, none⟩ (.slice (some ⟨g', 0, none⟩) ((rows[i]?.getD []).length + 1) cap)) :=
    ⟨rfl, rfl, rfl, by simp [World.setCell], fun k _ hk => Below.heap_setCell _ _ _ _ hk⟩
  have ha : Alters (fun k => k = g ∨ some k = v.ownBlock) W (W1.setCell ⟨g, i, none⟩ (.slice (some ⟨g', 0, none⟩) ((rows[i]?.getD []).length + 1) cap)) := (ha1.mono (fun _ _ h => .inr h)).trans (ha2.mono (fun _ _ h => .inl h))
  have hnew : ¬ some g = (Value.slice (some ⟨g', 0, none⟩) ((rows[i]?.getD []).length + 1) cap).ownBlock := by
    intro e
    have e' : g = g' := by simpa [Value.ownBlock] using e
    rcases hat with h | h
    · exact hgv (by rw [h, e'])
    · have := (Array.getElem?_eq_some_iff.1 hr.heap).1
      rw [World.size_alloc] at h; omega
  refine ⟨⟨?_, by simpa using hlv, by simpa using hlr, ?_, ?_, ?_⟩, ha⟩
  · simp [World.setCell, Array.getElem?_modify, hg1]
  · intro j u hu
    by_cases e : j = i
    · subst e
      rw [List.getElem?_set_self hi] at hu
      cases hu
      rw [List.getElem?_set_self (by omega)]
      exact hown.alters ha2 (fun k hk => by rw [hk]; exact hnew)
    · rw [List.getElem?_set_ne (by omega)] at hu ⊢
      refine (hr.own j u hu).alters ha (fun k hk => ?_)
      rcases hk with rfl | hk
      · exact hr.not_own hu hr.heap (by decide)
      · intro e2
        exact hr.apart j i u v hu hv e (by rw [← e2]; simp) (by rw [← e2, hk])
  · intro j k u1 u2 h1 h2 hjk hn
    by_cases ej : j = i
    · subst ej
      rw [List.getElem?_set_self hi] at h1
      cases h1
      rw [List.getElem?_set_ne hjk] at h2
      intro e
      rcases hat with h | h
      · exact hr.apart j k v u2 hv h2 hjk (by rw [h]; simp) (by rw [h]; exact e)
      · have := World.ownsRow.lt (hr.own k u2 h2) g' e.symm
        rw [World.size_alloc] at h; omega
    · rw [List.getElem?_set_ne (by omega)] at h1
      by_cases ek : k = i
      · subst ek
        rw [List.getElem?_set_self hi] at h2
        cases h2
        intro e
        rcases hat with h | h
        · exact hr.apart j k u1 v h1 hv ej hn (by rw [h]; exact e)
        · have := World.ownsRow.lt (hr.own j u1 h1) g' e
          rw [World.size_alloc] at h; omega
      · rw [List.getElem?_set_ne (by omega)] at h2
        exact hr.apart j k u1 u2 h1 h2 hjk hn
  · intro u hu
    rcases List.mem_or_eq_of_mem_set hu with hu | rfl
    · exact hr.good u hu
    · exact hG
end Go.Proofs.YtcpjkilnbhfpjaaDoor
