/-
  Rows of numbers that are made one after another; what they are as the lists of a board; clones.
-/
import Derived.Test.YtcpjkilnbhfpjaaDoorFar
namespace Go.Proofs.YtcpjkilnbhfpjaaDoor
open Go Go.RowKit Go.Shelf

/-- The slice ov is of the call's own, and holds slices of the call's own, from block h on; they hold the rows. -/
structure RowsN (h : Nat) (W : World) (ov : Value) (rows : List (List Int)) (vs : List Value) : Prop where
  outer : W.ownsRow h 29 1 ov rows.length vs
  own : ∀ (i : Nat) v, vs[i]? = some v → OwnInts h W v (rows[i]?.getD [])

theorem RowsN.vlen {h : Nat} {W : World} {ov : Value} {rows : List (List Int)} {vs : List Value} (hr : RowsN h W ov rows vs) : vs.length = rows.length := by
  have := hr.outer.1; omega

theorem RowsN.nil (h : Nat) (W : World) : RowsN h W (.slice none 0 0) [] [] := ⟨World.ownsRow_nil _ _ _ _, fun i v hv => by simp at hv⟩

theorem rows_outer {n : Nat} {W : World} {v : Value} {k : Nat} {l : List Value} (h : W.ownsRow n 29 1 v k l) {W' : World} {S : Nat → Prop} (ha : Alters S W W') (hS : ∀ k, S k → ¬ some k = v.ownBlock) : W'.ownsRow n 29 1 v k l := by
  refine ⟨h.1, ?_⟩
  rcases h.2 with h2 | ⟨g, cap, cur, rfl, hg, hc, r⟩
  · exact .inl h2
  · exact .inr ⟨g, cap, cur, rfl, hg, (ha.block g (Array.getElem?_eq_some_iff.1 hc).1 (fun hs => hS g hs rfl)).trans hc, r⟩

/-- The inner rows lie in other blocks than the outer one. -/
theorem RowsN.apart {h : Nat} {W : World} {ov : Value} {rows : List (List Int)} {vs : List Value} (hr : RowsN h W ov rows vs) {v : Value} {l : List Int} {n : Nat} (hv : OwnInts n W v l) {k : Nat} (hk : some k = ov.ownBlock) : ¬ some k = v.ownBlock := by
  intro e
  rcases hr.outer.2 with ⟨rfl, _⟩ | ⟨g, cap, cur, rfl, hg, hc, r⟩
  · simp [Value.ownBlock] at hk
  · obtain rfl : k = g := by simpa [Value.ownBlock] using hk
    rcases hv.2 with ⟨rfl, _⟩ | ⟨g', cap', cur', rfl, _, hc', _⟩
    · simp [Value.ownBlock] at e
    · obtain rfl : k = g' := by simpa [Value.ownBlock] using e
      rw [hc] at hc'; cases hc'

theorem RowsN.alters {h : Nat} {W W' : World} {ov : Value} {rows : List (List Int)} {vs : List Value} (hr : RowsN h W ov rows vs) {S : Nat → Prop} (ha : Alters S W W') (h0 : ∀ k, S k → ¬ some k = ov.ownBlock) (hS : ∀ k, S k → ∀ v ∈ vs, ¬ some k = v.ownBlock) : RowsN h W' ov rows vs :=
  ⟨rows_outer hr.outer ha h0, fun i v hv => (hr.own i v hv).alters ha (fun k hk => hS k hk v (List.mem_of_getElem? hv))⟩

/-- Behind 'rows = append(rows, row)'. -/
theorem RowsN.append {h : Nat} {W W' : World} {ov ov' v : Value} {rows : List (List Int)} {row : List Int} {vs : List Value} (hr : RowsN h W ov rows vs) (hv : OwnInts h W v row)
    (ho : W'.ownsRow h 29 1 ov' (rows.length + 1) (vs ++ [v])) (hg : W.grownBy W' ov.ownBlock) : RowsN h W' ov' (rows ++ [row]) (vs ++ [v]) := by
  have hvl := hr.vlen
  refine ⟨by simpa using ho, fun i u hu => ?_⟩
  by_cases hi : i < vs.length
  · rw [List.getElem?_append_left hi] at hu
    rw [List.getElem?_append_left (by omega)]
    exact (hr.own i u hu).alters (Alters.of_grown hg) (fun k hk => hr.apart (hr.own i u hu) hk)
  · have hil : i < (vs ++ [v]).length := (List.getElem?_eq_some_iff.1 hu).1
    simp only [List.length_append, List.length_singleton] at hil
    obtain rfl : i = vs.length := by omega
    simp only [List.getElem?_concat_length, Option.some.injEq] at hu
    subst hu
    rw [hvl, List.getElem?_concat_length, Option.getD_some]
    exact hv.alters (Alters.of_grown hg) (fun k hk => hr.apart hv hk)

/-- As the lists of a board. -/
theorem RowsN.rws {h : Nat} {W : World} {ov : Value} {rows : List (List Int)} {vs : List Value} (hr : RowsN h W ov rows vs) : ∃ a cap, ov = .slice a rows.length cap ∧ Rws W.heap.size W a rows := by
  have hvl := hr.vlen
  rcases hr.outer.2 with ⟨rfl, h0⟩ | ⟨g, cap, cur, rfl, hg, hc, r⟩
  · exact ⟨none, 0, by rw [h0], .inl (List.eq_nil_of_length_eq_zero h0)⟩
  · refine ⟨_, cap, rfl, .inr ⟨g, 0, rfl, (Array.getElem?_eq_some_iff.1 hc).1, fun j hj => ?_⟩⟩
    have hcell := World.ownsRow.cellAt hr.outer j (by omega)
    obtain ⟨v, hv⟩ : ∃ v, vs[j]? = some v := ⟨vs[j], by simp [hvl, hj]⟩
    obtain ⟨a, c, rfl, hI⟩ := (hr.own j v hv).ints
    exact ⟨a, c, by rw [Nat.zero_add, hcell, hv], hI⟩

/-- slices.Clone of numbers. -/
theorem clone_any (a : Option Addr) (cap N : Nat) (l : List Int) (w : World) (h1 : 1 ≤ l.length) (hl : l.length ≤ 1000) (hI : Ints N w a l) :
    Calls Tryd.prog 42 #[.slice a l.length cap] w fun e w' => ∃ v, e = .returned v ∧ OwnInts w.heap.size w' v l ∧ Below w.heap.size w w' := by
  obtain ⟨i0, hi, hz0, hz1, hz2⟩ := info_parts info_int
  have key : ∀ b off, (∀ j, j < l.length → w.cell? ⟨b, off + j, none⟩ = some (.int .i64 (l[j]?.getD 0))) → Calls Tryd.prog 42 #[.slice (some ⟨b, off, none⟩) l.length cap] w fun e w' => ∃ v, e = .returned v ∧ OwnInts w.heap.size w' v l ∧ Below w.heap.size w w' := by
    intro b off hc
    refine (Tryd.slices_Clone i0 (.int .i64 0) 1 8 hi hz0 hz1 hz2 rfl (by decide) (fun w => by simp [Go.sizeOf, typeInfo, hi, hz1]) b off l.length cap (l.map (Value.int .i64)) w (by simp) (by unfold maxLen; omega) (by omega) (fun j u hu => ?_) (by simp [Value.oneCell'])).mono ?_
    · have hj : j < l.length := by have := (List.getElem?_eq_some_iff.1 hu).1; simpa using this
      rw [hc j hj, ← hu]; simp [hj]
    · rintro e w' ⟨v, rfl, h1, _, h2⟩
      exact ⟨v, rfl, h1, h2⟩
  rcases hI with rfl | ⟨b, off, rfl, _, hc⟩
  · simp at h1
  · exact key b off hc
end Go.Proofs.YtcpjkilnbhfpjaaDoor
