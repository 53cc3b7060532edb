/-
  A board that is being made: its box, its rows and its turns, all of the call's own.
-/
import Derived.Test.YtcpjkilnbhfpjaaDoorWithout
namespace Go.Proofs.YtcpjkilnbhfpjaaDoor
open Go Go.RowKit Go.Shelf

structure Bld (h Bo : Nat) (cells : Int) (W : World) (on ot : Value) (rows : List (List Int)) (turn : List Int) (vs : List Value) : Prop where
  box : W.heap[Bo]? = some (.cells #[.int .i64 cells, on, ot] 31 (0, 0))
  rows : RowsN h W on rows vs
  turn : OwnInts h W ot turn
  apart : ∀ k, some k = ot.ownBlock → ∀ v ∈ vs, ¬ some k = v.ownBlock

theorem Bld.lt {h Bo : Nat} {cells : Int} {W : World} {on ot : Value} {rows : List (List Int)} {turn : List Int} {vs : List Value} (hb : Bld h Bo cells W on ot rows turn vs) : Bo < W.heap.size := (Array.getElem?_eq_some_iff.1 hb.box).1
theorem Bld.own_on {h Bo : Nat} {cells : Int} {W : World} {on ot : Value} {rows : List (List Int)} {turn : List Int} {vs : List Value} (hb : Bld h Bo cells W on ot rows turn vs) {k : Nat} (hk : some k = on.ownBlock) : h ≤ k ∧ k < W.heap.size := World.ownsRow.lt hb.rows.outer k hk.symm
theorem Bld.own_ot {h Bo : Nat} {cells : Int} {W : World} {on ot : Value} {rows : List (List Int)} {turn : List Int} {vs : List Value} (hb : Bld h Bo cells W on ot rows turn vs) {k : Nat} (hk : some k = ot.ownBlock) : h ≤ k ∧ k < W.heap.size := World.ownsRow.lt hb.turn k hk.symm
theorem Bld.own_vs {h Bo : Nat} {cells : Int} {W : World} {on ot : Value} {rows : List (List Int)} {turn : List Int} {vs : List Value} (hb : Bld h Bo cells W on ot rows turn vs) {k : Nat} {v : Value} (hv : v ∈ vs) (hk : some k = v.ownBlock) : h ≤ k ∧ k < W.heap.size := by
  obtain ⟨i, hi⟩ := List.getElem?_of_mem hv
  exact World.ownsRow.lt (hb.rows.own i v hi) k hk.symm

theorem Bld.alters {h Bo : Nat} {cells : Int} {W W' : World} {on ot : Value} {rows : List (List Int)} {turn : List Int} {vs : List Value} (hb : Bld h Bo cells W on ot rows turn vs) {S : Nat → Prop} (ha : Alters S W W')
    (h0 : ¬ S Bo) (h1 : ∀ k, S k → ¬ some k = on.ownBlock) (h2 : ∀ k, S k → ¬ some k = ot.ownBlock) (h3 : ∀ k, S k → ∀ v ∈ vs, ¬ some k = v.ownBlock) : Bld h Bo cells W' on ot rows turn vs :=
  ⟨(ha.block Bo hb.lt h0).trans hb.box, hb.rows.alters ha h1 h3, hb.turn.alters ha h2, hb.apart⟩

theorem Bld.below {h Bo : Nat} {cells : Int} {W W' : World} {on ot : Value} {rows : List (List Int)} {turn : List Int} {vs : List Value} (hb : Bld h Bo cells W on ot rows turn vs) (ha : Below W.heap.size W W') : Bld h Bo cells W' on ot rows turn vs :=
  hb.alters (S := fun _ => False) (Alters.of_below ha) (fun h => h) (fun _ h => h.elim) (fun _ h => h.elim) (fun _ h => h.elim)

/-- What is turned at new blocks alone. -/
theorem Bld.above {h Bo : Nat} {cells : Int} {W W' : World} {on ot : Value} {rows : List (List Int)} {turn : List Int} {vs : List Value} (hb : Bld h Bo cells W on ot rows turn vs) {S : Nat → Prop} (ha : Alters S W W') (hS : ∀ k, S k → W.heap.size ≤ k) : Bld h Bo cells W' on ot rows turn vs :=
  hb.alters ha (fun h => by have := hS _ h; have := hb.lt; omega) (fun k hk e => by have := hS _ hk; have := hb.own_on e; omega) (fun k hk e => by have := hS _ hk; have := hb.own_ot e; omega) (fun k hk v hv e => by have := hS _ hk; have := hb.own_vs hv e; omega)

theorem alters_cell (W : World) (B j : Nat) (v : Value) : Alters (fun k => k = B) W (W.setCell ⟨B, j, none⟩ v) := ⟨rfl, rfl, rfl, by simp [World.setCell], fun k _ hk => Below.heap_setCell _ _ _ _ hk⟩

theorem Bld.cell {h Bo : Nat} {cells : Int} {W : World} {on ot : Value} {rows : List (List Int)} {turn : List Int} {vs : List Value} (hb : Bld h Bo cells W on ot rows turn vs) :
    W.cell? ⟨Bo, 0, none⟩ = some (.int .i64 cells) ∧ W.cell? ⟨Bo, 1, none⟩ = some on ∧ W.cell? ⟨Bo, 2, none⟩ = some ot ∧ W.frozen? ⟨Bo, 1, none⟩ = false ∧ W.frozen? ⟨Bo, 2, none⟩ = false := by
  have hx := hb.box
  refine ⟨?_, ?_, ?_, ?_, ?_⟩
  · unfold World.cell?; rw [hx]; rfl
  · unfold World.cell?; rw [hx]; rfl
  · unfold World.cell?; rw [hx]; rfl
  · unfold World.frozen?; rw [hx]; simp
  · unfold World.frozen?; rw [hx]; simp

/-- Behind the append of a row, ahead of the store. -/
theorem Bld.grown_on {h Bo : Nat} {cells : Int} {W w5 : World} {on ot : Value} {rows : List (List Int)} {turn : List Int} {vs : List Value} (hb : Bld h Bo cells W on ot rows turn vs) {tmp : Obj} (hg : (W.alloc tmp).grownBy w5 on.ownBlock) : w5.heap[Bo]? = some (.cells #[.int .i64 cells, on, ot] 31 (0, 0)) := by
  have hA := hb.below ((Below.refl _ W).alloc (Nat.le_refl _) tmp)
  exact (hg.block Bo hA.lt (own_type hA.rows.outer hA.box (by decide))).trans hA.box
theorem Bld.grown_ot {h Bo : Nat} {cells : Int} {W w5 : World} {on ot : Value} {rows : List (List Int)} {turn : List Int} {vs : List Value} (hb : Bld h Bo cells W on ot rows turn vs) {tmp : Obj} (hg : (W.alloc tmp).grownBy w5 ot.ownBlock) : w5.heap[Bo]? = some (.cells #[.int .i64 cells, on, ot] 31 (0, 0)) := by
  have hA := hb.below ((Below.refl _ W).alloc (Nat.le_refl _) tmp)
  exact (hg.block Bo hA.lt (own_type hA.turn hA.box (by decide))).trans hA.box

/-- Behind 'b.Next = append(b.Next, row)'. -/
theorem Bld.next {h Bo : Nat} {cells : Int} {W w5 : World} {on ot v on' : Value} {rows : List (List Int)} {turn row : List Int} {vs : List Value} (hb : Bld h Bo cells W on ot rows turn vs) {tmp : Obj} (hv : OwnInts h W v row) (hvt : ∀ k, some k = ot.ownBlock → ¬ some k = v.ownBlock)
    (ho : w5.ownsRow h 29 1 on' (rows.length + 1) (vs ++ [v])) (hg : (W.alloc tmp).grownBy w5 on.ownBlock) :
    Bld h Bo cells (w5.setCell ⟨Bo, 1, none⟩ on') on' ot (rows ++ [row]) turn (vs ++ [v]) ∧ Alters (fun k => k = Bo ∨ some k = on.ownBlock) W (w5.setCell ⟨Bo, 1, none⟩ on') := by
  have hAB : Below W.heap.size W (W.alloc tmp) := (Below.refl _ W).alloc (Nat.le_refl _) tmp
  have hA := hb.below hAB
  have hvA := hv.alters (S := fun _ => False) (Alters.of_below hAB) (fun _ h => h.elim)
  have hrow := RowsN.append hA.rows hvA ho hg
  have hbox := hb.grown_on hg
  have hBne := own_type hrow.outer hbox (by decide)
  have haB := alters_cell w5 Bo 1 on'
  have hall : Alters (fun k => k = Bo ∨ some k = on.ownBlock) W (w5.setCell ⟨Bo, 1, none⟩ on') :=
    ((Alters.of_below hAB).trans ((Alters.of_grown hg).mono (fun _ _ h => .inr h))).trans (haB.mono (fun _ _ h => .inl h))
  refine ⟨⟨?_, ?_, ?_, ?_⟩, hall⟩
  · simp [World.setCell, Array.getElem?_modify, hbox]
  · exact hrow.alters haB (fun k hk => by rw [hk]; exact hBne) (fun k hk v hv => by
      rw [hk]
      obtain ⟨i, hi⟩ := List.getElem?_of_mem hv
      exact own_type (hrow.own i v hi) hbox (by decide))
  · exact hb.turn.alters hall (fun k hk => by
      rcases hk with rfl | hk
      · exact own_type hb.turn hb.box (by decide)
      · exact hb.rows.apart hb.turn hk)
  · intro k hk u hu
    rcases List.mem_append.1 hu with hu | hu
    · exact hb.apart k hk u hu
    · rw [List.mem_singleton.1 hu]; exact hvt k hk

/-- Behind 'b.Turn = append(b.Turn, x)'. -/
theorem Bld.turns {h Bo : Nat} {cells : Int} {W w5 : World} {on ot ot' : Value} {rows : List (List Int)} {turn turn' : List Int} {vs : List Value} (hb : Bld h Bo cells W on ot rows turn vs) {tmp : Obj}
    (ho : OwnInts h w5 ot' turn') (hg : (W.alloc tmp).grownBy w5 ot.ownBlock) (hat : ot'.ownBlock = ot.ownBlock ∨ ot'.ownBlock = some (W.alloc tmp).heap.size) :
    Bld h Bo cells (w5.setCell ⟨Bo, 2, none⟩ ot') on ot' rows turn' vs ∧ Alters (fun k => k = Bo ∨ some k = ot.ownBlock) W (w5.setCell ⟨Bo, 2, none⟩ ot') := by
  have hAB : Below W.heap.size W (W.alloc tmp) := (Below.refl _ W).alloc (Nat.le_refl _) tmp
  have hbox := hb.grown_ot hg
  have haB := alters_cell w5 Bo 2 ot'
  have hall : Alters (fun k => k = Bo ∨ some k = ot.ownBlock) W (w5.setCell ⟨Bo, 2, none⟩ ot') :=
    ((Alters.of_below hAB).trans ((Alters.of_grown hg).mono (fun _ _ h => .inr h))).trans (haB.mono (fun _ _ h => .inl h))
  refine ⟨⟨?_, ?_, ?_, ?_⟩, hall⟩
  · simp [World.setCell, Array.getElem?_modify, hbox]
  · exact hb.rows.alters hall (fun k hk => by
      rcases hk with rfl | hk
      · exact own_type hb.rows.outer hb.box (by decide)
      · exact fun e => hb.rows.apart hb.turn e hk) (fun k hk v hv => by
      rcases hk with rfl | hk
      · obtain ⟨i, hi⟩ := List.getElem?_of_mem hv
        exact own_type (hb.rows.own i v hi) hb.box (by decide)
      · exact hb.apart k hk v hv)
  · exact ho.alters haB (fun k hk => by rw [hk]; exact own_type ho hbox (by decide))
  · intro k hk v hv e
    rcases hat with h | h
    · exact hb.apart k (hk.trans h) v hv e
    · rw [h] at hk
      cases hk
      have := hb.own_vs hv e
      rw [World.size_alloc] at this
      omega

/-- Behind 'b.Turn[j] = x'. -/
theorem Bld.setTurn {h Bo : Nat} {cells : Int} {W : World} {on : Value} {g k cap : Nat} {rows : List (List Int)} {turn : List Int} {vs : List Value} (hb : Bld h Bo cells W on (.slice (some ⟨g, 0, none⟩) k cap) rows turn vs) (j : Nat) (x : Int) :
    Bld h Bo cells (W.setCell ⟨g, j, none⟩ (.int .i64 x)) on (.slice (some ⟨g, 0, none⟩) k cap) rows (turn.set j x) vs := by
  have hal := alters_cell W g j (.int .i64 x)
  refine ⟨(hal.block Bo hb.lt (fun e => own_type hb.turn hb.box (by decide) (by rw [e]; rfl))).trans hb.box, hb.rows.alters hal (fun k hk e => ?_) (fun k hk v hv => hb.apart k (by rw [hk]; rfl) v hv), hb.turn.set j x, hb.apart⟩
  exact hb.rows.apart hb.turn e (by rw [hk]; rfl)

/-- As data. -/
theorem Bld.held {h Bo : Nat} {cells : Int} {W : World} {on ot : Value} {rows : List (List Int)} {turn : List Int} {vs : List Value} (hb : Bld h Bo cells W on ot rows turn vs) :
    ∃ an cn at_ ct, on = .slice an rows.length cn ∧ ot = .slice at_ turn.length ct ∧ Rws W.heap.size W an rows ∧ Ints W.heap.size W at_ turn := by
  obtain ⟨an, cn, h1, h2⟩ := hb.rows.rws
  obtain ⟨at_, ct, h3, h4⟩ := hb.turn.ints
  exact ⟨an, cn, at_, ct, h1, h3, h2, h4⟩
end Go.Proofs.YtcpjkilnbhfpjaaDoor
