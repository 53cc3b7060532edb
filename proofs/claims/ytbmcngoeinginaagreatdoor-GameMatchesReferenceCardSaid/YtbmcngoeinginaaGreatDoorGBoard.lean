/-
 Boards as data, and as lists that are being made (extracted from the texts of boards, for seats without them).
 Without of the reference for boards (as in stage 1, for seats without the texts of boards).
 Grid of the reference for boards, for grids of at most 3 columns and rows.
 The boards of the reference's games.
-/
import Derived.Test.YtbmcngoeinginaaGreatDoorTk
import Derived.Test.YtbmcngoeinginaaGreatDoorCBas
import Derived.Shelf.AbstractIn
import Derived.Deep.DeepCutAuto
import Derived.Deep.RegionHeld3
import Derived.Deep.QuietTactic
import Derived.Test.YtbmcngoeinginaaGreatDoorQThen
namespace Go.Proofs.YtbmcngoeinginaaGreatDoor
open Go Go.RowKit
structure Brd.Ok (B : Brd) : Prop where
 lo : 1 ≤ B.cells
 hi : B.cells ≤ 64
 dirs : B.next.length ≤ 8
 row : ∀ d, d < B.next.length → ((B.next[d]?.getD []).length : Int) = B.cells
 ent : ∀ d c : Nat, d < B.next.length → (c : Int) < B.cells → -1 ≤ (B.next[d]?.getD [])[c]?.getD 0 ∧ (B.next[d]?.getD [])[c]?.getD 0 < B.cells
 turn : B.turn.length = B.next.length
 tlo : ∀ d, d < B.turn.length → 0 ≤ B.turn[d]?.getD 0 ∧ B.turn[d]?.getD 0 < B.next.length
theorem OwnInts.places {h : Nat} {W : World} {v : Value} {l : List Int} (hv : OwnInts h W v l) : ∃ o cap, v = .slice o l.length cap ∧ ∀ j, j < l.length → ∃ g, o = some ⟨g, 0, none⟩ ∧ some g = v.ownBlock ∧ W.cell? ⟨g, j, none⟩ = some (.int .i64 (l[j]?.getD 0)) := by
 rcases hv.form with ⟨rfl, h0⟩ | ⟨G, cap, rfl, _⟩
 · have : l = [] := by simpa using h0
   subst this;exact ⟨none, 0, rfl, fun j hj => by simp at hj⟩
 · exact ⟨_, cap, rfl, fun j hj => ⟨G, rfl, rfl, (hv.cellAt hj).1⟩⟩
def outTo (c : Int) (row : List Int) : Nat → List Int
 | 0 => row
 | k + 1 => if (k : Int) = c ∨ row[k]?.getD 0 = c then (outTo c row k).set k (-1) else outTo c row k
def outRow (c : Int) (row : List Int) : List Int := outTo c row row.length
def withoutS (B : Brd) (c : Int) : Brd := { cells := B.cells, next := B.next.map (outRow c), turn := B.turn }
theorem outTo_len (c : Int) (row : List Int) (k : Nat) : (outTo c row k).length = row.length := by
 induction k with
 | zero => rfl
 | succ k ih => unfold outTo; split <;> simp [ih]
theorem own_type {n : Nat} {W : World} {e : TypeId} {size k : Nat} {v : Value} {xs : List Value} (h : W.ownsRow n e size v k xs) {B : Nat} {c : Array Value} {t : TypeId} {f : Nat × Nat} (hB : W.heap[B]? = some (.cells c t f)) (ht : t ≠ e) : ¬ some B = v.ownBlock := by
 intro e
 rcases h.2 with ⟨rfl, _⟩ | ⟨g', cap, cur, rfl, _, hc, _⟩
 · simp [Value.ownBlock] at e
 · obtain rfl : B = g' := by simpa [Value.ownBlock] using e
   rw [hB] at hc; cases hc; exact ht rfl
structure RowsN (h : Nat) (W : World) (ov : Value) (rows : List (List Int)) (vs : List Value) : Prop where
 outer : W.ownsRow h 32 1 ov rows.length vs
 own : ∀ (i : Nat) v, vs[i]? = some v → OwnInts h W v (rows[i]?.getD [])
theorem RowsN.vlen {h : Nat} {W : World} {ov : Value} {rows : List (List Int)} {vs : List Value} (hr : RowsN h W ov rows vs) : vs.length = rows.length := by
 have := hr.outer.1; omega
theorem RowsN.nil (h : Nat) (W : World) : RowsN h W (.slice none 0 0) [] [] := ⟨World.ownsRow_nil _ _ _ _, fun i v hv => by simp at hv⟩
theorem rows_outer {n : Nat} {W : World} {v : Value} {k : Nat} {l : List Value} (h : W.ownsRow n 32 1 v k l) {W' : World} {S : Nat → Prop} (ha : Alters S W W') (hS : ∀ k, S k → ¬ some k = v.ownBlock) : W'.ownsRow n 32 1 v k l := by
 refine ⟨h.1, ?_⟩
 rcases h.2 with h2 | ⟨g, cap, cur, rfl, hg, hc, r⟩
 · exact .inl h2
 · exact .inr ⟨g, cap, cur, rfl, hg, (ha.block g (Array.getElem?_eq_some_iff.1 hc).1 (fun hs => hS g hs rfl)).trans hc, r⟩
theorem RowsN.apart {h : Nat} {W : World} {ov : Value} {rows : List (List Int)} {vs : List Value} (hr : RowsN h W ov rows vs) {v : Value} {l : List Int} {n : Nat} (hv : OwnInts n W v l) {k : Nat} (hk : some k = ov.ownBlock) : ¬ some k = v.ownBlock := by
 intro e
 rcases hr.outer.2 with ⟨rfl, _⟩ | ⟨g, cap, cur, rfl, hg, hc, r⟩
 · simp [Value.ownBlock] at hk
 · obtain rfl : k = g := by simpa [Value.ownBlock] using hk
   rcases hv.2 with ⟨rfl, _⟩ | ⟨g', cap', cur', rfl, _, hc', _⟩
   · simp [Value.ownBlock] at e
   · obtain rfl : k = g' := by simpa [Value.ownBlock] using e
     rw [hc] at hc'; cases hc'
theorem RowsN.alters {h : Nat} {W W' : World} {ov : Value} {rows : List (List Int)} {vs : List Value} (hr : RowsN h W ov rows vs) {S : Nat → Prop} (ha : Alters S W W') (h0 : ∀ k, S k → ¬ some k = ov.ownBlock) (hS : ∀ k, S k → ∀ v ∈ vs, ¬ some k = v.ownBlock) : RowsN h W' ov rows vs :=
 ⟨rows_outer hr.outer ha h0, fun i v hv => (hr.own i v hv).alters ha (fun k hk => hS k hk v (List.mem_of_getElem? hv))⟩
theorem RowsN.append {h : Nat} {W W' : World} {ov ov' v : Value} {rows : List (List Int)} {row : List Int} {vs : List Value} (hr : RowsN h W ov rows vs) (hv : OwnInts h W v row)
   (ho : W'.ownsRow h 32 1 ov' (rows.length + 1) (vs ++ [v])) (hg : W.grownBy W' ov.ownBlock) : RowsN h W' ov' (rows ++ [row]) (vs ++ [v]) := by
 have hvl := hr.vlen
 refine ⟨by simpa using ho, fun i u hu => ?_⟩
 by_cases hi : i < vs.length
 · rw [List.getElem?_append_left hi] at hu
   rw [List.getElem?_append_left (by omega)];exact (hr.own i u hu).alters (Alters.of_grown hg) (fun k hk => hr.apart (hr.own i u hu) hk)
 · have hil : i < (vs ++ [v]).length := (List.getElem?_eq_some_iff.1 hu).1
   simp only [List.length_append, List.length_singleton] at hil
   obtain rfl : i = vs.length := by omega
   simp only [List.getElem?_concat_length, Option.some.injEq] at hu;subst hu;rw [hvl, List.getElem?_concat_length, Option.getD_some];exact hv.alters (Alters.of_grown hg) (fun k hk => hr.apart hv hk)
theorem RowsN.rws {h : Nat} {W : World} {ov : Value} {rows : List (List Int)} {vs : List Value} (hr : RowsN h W ov rows vs) : ∃ a cap, ov = .slice a rows.length cap ∧ Rws W.heap.size W a rows := by
 have hvl := hr.vlen
 rcases hr.outer.2 with ⟨rfl, h0⟩ | ⟨g, cap, cur, rfl, hg, hc, r⟩
 · exact ⟨none, 0, by rw [h0], .inl (List.eq_nil_of_length_eq_zero h0)⟩
 · refine ⟨_, cap, rfl, .inr ⟨g, 0, rfl, (Array.getElem?_eq_some_iff.1 hc).1, fun j hj => ?_⟩⟩
   have hcell := World.ownsRow.cellAt hr.outer j (by omega);obtain ⟨v, hv⟩ : ∃ v, vs[j]? = some v := ⟨vs[j], by simp [hvl, hj]⟩;obtain ⟨a, c, rfl, hI⟩ := (hr.own j v hv).ints;exact ⟨a, c, by rw [Nat.zero_add, hcell, hv], hI⟩
structure Bld (h Bo : Nat) (cells : Int) (W : World) (on ot : Value) (rows : List (List Int)) (turn : List Int) (vs : List Value) : Prop where
 box : W.heap[Bo]? = some (.cells #[.int .i64 cells, on, ot] 34 (0, 0))
 rows : RowsN h W on rows vs
 turn : OwnInts h W ot turn
 apart : ∀ k, some k = ot.ownBlock → ∀ v ∈ vs, ¬ some k = v.ownBlock
theorem Bld.lt {h Bo : Nat} {cells : Int} {W : World} {on ot : Value} {rows : List (List Int)} {turn : List Int} {vs : List Value} (hb : Bld h Bo cells W on ot rows turn vs) : Bo < W.heap.size := (Array.getElem?_eq_some_iff.1 hb.box).1
theorem Bld.own_on {h Bo : Nat} {cells : Int} {W : World} {on ot : Value} {rows : List (List Int)} {turn : List Int} {vs : List Value} (hb : Bld h Bo cells W on ot rows turn vs) {k : Nat} (hk : some k = on.ownBlock) : h ≤ k ∧ k < W.heap.size := World.ownsRow.lt hb.rows.outer k hk.symm
theorem Bld.own_ot {h Bo : Nat} {cells : Int} {W : World} {on ot : Value} {rows : List (List Int)} {turn : List Int} {vs : List Value} (hb : Bld h Bo cells W on ot rows turn vs) {k : Nat} (hk : some k = ot.ownBlock) : h ≤ k ∧ k < W.heap.size := World.ownsRow.lt hb.turn k hk.symm
theorem Bld.own_vs {h Bo : Nat} {cells : Int} {W : World} {on ot : Value} {rows : List (List Int)} {turn : List Int} {vs : List Value} (hb : Bld h Bo cells W on ot rows turn vs) {k : Nat} {v : Value} (hv : v ∈ vs) (hk : some k = v.ownBlock) : h ≤ k ∧ k < W.heap.size := by
 obtain ⟨i, hi⟩ := List.getElem?_of_mem hv
 exact World.ownsRow.lt (hb.rows.own i v hi) k hk.symm
theorem Bld.alters {h Bo : Nat} {cells : Int} {W W' : World} {on ot : Value} {rows : List (List Int)} {turn : List Int} {vs : List Value} (hb : Bld h Bo cells W on ot rows turn vs) {S : Nat → Prop} (ha : Alters S W W')
   (h0 : ¬ S Bo) (h1 : ∀ k, S k → ¬ some k = on.ownBlock) (h2 : ∀ k, S k → ¬ some k = ot.ownBlock) (h3 : ∀ k, S k → ∀ v ∈ vs, ¬ some k = v.ownBlock) : Bld h Bo cells W' on ot rows turn vs :=
 ⟨(ha.block Bo hb.lt h0).trans hb.box, hb.rows.alters ha h1 h3, hb.turn.alters ha h2, hb.apart⟩
theorem Bld.below {h Bo : Nat} {cells : Int} {W W' : World} {on ot : Value} {rows : List (List Int)} {turn : List Int} {vs : List Value} (hb : Bld h Bo cells W on ot rows turn vs) (ha : Below W.heap.size W W') : Bld h Bo cells W' on ot rows turn vs :=
 hb.alters (S := fun _ => False) (Alters.of_below ha) (fun h => h) (fun _ h => h.elim) (fun _ h => h.elim) (fun _ h => h.elim)
theorem Bld.cell {h Bo : Nat} {cells : Int} {W : World} {on ot : Value} {rows : List (List Int)} {turn : List Int} {vs : List Value} (hb : Bld h Bo cells W on ot rows turn vs) :
   W.cell? ⟨Bo, 0, none⟩ = some (.int .i64 cells) ∧ W.cell? ⟨Bo, 1, none⟩ = some on ∧ W.cell? ⟨Bo, 2, none⟩ = some ot ∧ W.frozen? ⟨Bo, 1, none⟩ = false ∧ W.frozen? ⟨Bo, 2, none⟩ = false := by
 have hx := hb.box
 refine ⟨?_, ?_, ?_, ?_, ?_⟩
 · unfold World.cell?; rw [hx]; rfl
 · unfold World.cell?; rw [hx]; rfl
 · unfold World.cell?; rw [hx]; rfl
 · unfold World.frozen?; rw [hx]; simp
 · unfold World.frozen?; rw [hx]; simp
theorem Bld.grown_on {h Bo : Nat} {cells : Int} {W w5 : World} {on ot : Value} {rows : List (List Int)} {turn : List Int} {vs : List Value} (hb : Bld h Bo cells W on ot rows turn vs) {tmp : Obj} (hg : (W.alloc tmp).grownBy w5 on.ownBlock) : w5.heap[Bo]? = some (.cells #[.int .i64 cells, on, ot] 34 (0, 0)) := by
 have hA := hb.below ((Below.refl _ W).alloc (Nat.le_refl _) tmp)
 exact (hg.block Bo hA.lt (own_type hA.rows.outer hA.box (by decide))).trans hA.box
theorem Bld.grown_ot {h Bo : Nat} {cells : Int} {W w5 : World} {on ot : Value} {rows : List (List Int)} {turn : List Int} {vs : List Value} (hb : Bld h Bo cells W on ot rows turn vs) {tmp : Obj} (hg : (W.alloc tmp).grownBy w5 ot.ownBlock) : w5.heap[Bo]? = some (.cells #[.int .i64 cells, on, ot] 34 (0, 0)) := by
 have hA := hb.below ((Below.refl _ W).alloc (Nat.le_refl _) tmp)
 exact (hg.block Bo hA.lt (own_type hA.turn hA.box (by decide))).trans hA.box
theorem Bld.next {h Bo : Nat} {cells : Int} {W w5 : World} {on ot v on' : Value} {rows : List (List Int)} {turn row : List Int} {vs : List Value} (hb : Bld h Bo cells W on ot rows turn vs) {tmp : Obj} (hv : OwnInts h W v row) (hvt : ∀ k, some k = ot.ownBlock → ¬ some k = v.ownBlock)
   (ho : w5.ownsRow h 32 1 on' (rows.length + 1) (vs ++ [v])) (hg : (W.alloc tmp).grownBy w5 on.ownBlock) :
   Bld h Bo cells (w5.setCell ⟨Bo, 1, none⟩ on') on' ot (rows ++ [row]) turn (vs ++ [v]) ∧ Alters (fun k => k = Bo ∨ some k = on.ownBlock) W (w5.setCell ⟨Bo, 1, none⟩ on') := by
 have hAB : Below W.heap.size W (W.alloc tmp) := (Below.refl _ W).alloc (Nat.le_refl _) tmp
 have hA := hb.below hAB
 have hvA := hv.alters (S := fun _ => False) (Alters.of_below hAB) (fun _ h => h.elim)
 have hrow := RowsN.append hA.rows hvA ho hg
 have hbox := hb.grown_on hg
 have hBne := own_type hrow.outer hbox (by decide)
 have haB := alters_cell w5 Bo 1 on'
 have hall : Alters (fun k => k = Bo ∨ some k = on.ownBlock) W (w5.setCell ⟨Bo, 1, none⟩ on') :=
   ((Alters.of_below hAB).trans ((Alters.of_grown hg).mono (fun _ _ h => .inr h))).trans (haB.mono (fun _ _ h => .inl h))
 refine ⟨⟨?_, ?_, ?_, ?_⟩, hall⟩
 · simp [World.setCell, Array.getElem?_modify, hbox]
 · exact hrow.alters haB (fun k hk => by rw [hk]; exact hBne) (fun k hk v hv => by
     rw [hk];obtain ⟨i, hi⟩ := List.getElem?_of_mem hv;exact own_type (hrow.own i v hi) hbox (by decide))
 · exact hb.turn.alters hall (fun k hk => by
     rcases hk with rfl | hk
     · exact own_type hb.turn hb.box (by decide)
     · exact hb.rows.apart hb.turn hk)
 · intro k hk u hu
   rcases List.mem_append.1 hu with hu | hu
   · exact hb.apart k hk u hu
   · rw [List.mem_singleton.1 hu]; exact hvt k hk
theorem Bld.turns {h Bo : Nat} {cells : Int} {W w5 : World} {on ot ot' : Value} {rows : List (List Int)} {turn turn' : List Int} {vs : List Value} (hb : Bld h Bo cells W on ot rows turn vs) {tmp : Obj}
   (ho : OwnInts h w5 ot' turn') (hg : (W.alloc tmp).grownBy w5 ot.ownBlock) (hat : ot'.ownBlock = ot.ownBlock ∨ ot'.ownBlock = some (W.alloc tmp).heap.size) :
   Bld h Bo cells (w5.setCell ⟨Bo, 2, none⟩ ot') on ot' rows turn' vs ∧ Alters (fun k => k = Bo ∨ some k = ot.ownBlock) W (w5.setCell ⟨Bo, 2, none⟩ ot') := by
 have hAB : Below W.heap.size W (W.alloc tmp) := (Below.refl _ W).alloc (Nat.le_refl _) tmp
 have hbox := hb.grown_ot hg
 have haB := alters_cell w5 Bo 2 ot'
 have hall : Alters (fun k => k = Bo ∨ some k = ot.ownBlock) W (w5.setCell ⟨Bo, 2, none⟩ ot') :=
   ((Alters.of_below hAB).trans ((Alters.of_grown hg).mono (fun _ _ h => .inr h))).trans (haB.mono (fun _ _ h => .inl h))
 refine ⟨⟨?_, ?_, ?_, ?_⟩, hall⟩
 · simp [World.setCell, Array.getElem?_modify, hbox]
 · exact hb.rows.alters hall (fun k hk => by
     rcases hk with rfl | hk
     · exact own_type hb.rows.outer hb.box (by decide)
     · exact fun e => hb.rows.apart hb.turn e hk) (fun k hk v hv => by
     rcases hk with rfl | hk
     · obtain ⟨i, hi⟩ := List.getElem?_of_mem hv
       exact own_type (hb.rows.own i v hi) hb.box (by decide)
     · exact hb.apart k hk v hv)
 · exact ho.alters haB (fun k hk => by rw [hk]; exact own_type ho hbox (by decide))
 · intro k hk v hv e
   rcases hat with h | h
   · exact hb.apart k (hk.trans h) v hv e
   · rw [h] at hk
     cases hk
     have := hb.own_vs hv e;rw [World.size_alloc] at this
     omega
theorem Bld.held {h Bo : Nat} {cells : Int} {W : World} {on ot : Value} {rows : List (List Int)} {turn : List Int} {vs : List Value} (hb : Bld h Bo cells W on ot rows turn vs) :
   ∃ an cn at_ ct, on = .slice an rows.length cn ∧ ot = .slice at_ turn.length ct ∧ Rws W.heap.size W an rows ∧ Ints W.heap.size W at_ turn := by
 obtain ⟨an, cn, h1, h2⟩ := hb.rows.rws
 obtain ⟨at_, ct, h3, h4⟩ := hb.turn.ints
 exact ⟨an, cn, at_, ct, h1, h3, h2, h4⟩
structure InBox (W : World) (b : Nat) (an at_ : Option Addr) (cn ct : Nat) (B : Brd) : Prop where
 c0 : W.cell? ⟨b, 0, none⟩ = some (.int .i64 B.cells)
 c1 : W.cell? ⟨b, 1, none⟩ = some (.slice an B.next.length cn)
 c2 : W.cell? ⟨b, 2, none⟩ = some (.slice at_ B.turn.length ct)
 held : Held W.heap.size W an at_ B
theorem InBox.up {W W' : World} {b : Nat} {an at_ : Option Addr} {cn ct : Nat} {B : Brd} (h : InBox W b an at_ cn ct B) (hb : Below W.heap.size W W') : InBox W' b an at_ cn ct B :=
 ⟨cell_keep hb h.c0, cell_keep hb h.c1, cell_keep hb h.c2, (h.held.up (Nat.le_refl _) hb).mono hb.size⟩
theorem InBox.new {W : World} {an at_ : Option Addr} (cn ct : Nat) {B : Brd} (h : Held W.heap.size W an at_ B) : InBox (W.alloc (.cells #[.int .i64 B.cells, .slice an B.next.length cn, .slice at_ B.turn.length ct] 34)) W.heap.size an at_ cn ct B :=
 ⟨cell_new_at _ _ _ _ _ _ rfl rfl, cell_new_at _ _ _ _ _ _ rfl rfl, cell_new_at _ _ _ _ _ _ rfl rfl, (h.up (Nat.le_refl _) ((Below.refl _ _).alloc (Nat.le_refl _) _)).mono (by rw [World.size_alloc]; omega)⟩
theorem ownsRow_low {n m : Nat} {W : World} {e : TypeId} {size k : Nat} {v : Value} {l : List Value} (h : W.ownsRow n e size v k l) (hm : m ≤ n) : W.ownsRow m e size v k l := by
 refine ⟨h.1, ?_⟩
 rcases h.2 with h2 | ⟨g, cap, cur, hv, hg, r⟩
 · exact .inl h2
 · exact .inr ⟨g, cap, cur, hv, Nat.le_trans hm hg, r⟩
theorem RowsN.low {h m : Nat} {W : World} {ov : Value} {rows : List (List Int)} {vs : List Value} (hr : RowsN h W ov rows vs) (hm : m ≤ h) : RowsN m W ov rows vs :=
 ⟨ownsRow_low hr.outer hm, fun i v hv => OwnInts.mono (hr.own i v hv) hm⟩
structure OwnB (h : Nat) (W : World) (on ot : Value) (B : Brd) : Prop where
 rows : ∃ vs, RowsN h W on B.next vs
 turn : OwnInts h W ot B.turn
theorem OwnB.low {h m : Nat} {W : World} {on ot : Value} {B : Brd} (hb : OwnB h W on ot B) (hm : m ≤ h) : OwnB m W on ot B := by
 obtain ⟨vs, hr⟩ := hb.rows
 exact ⟨⟨vs, hr.low hm⟩, OwnInts.mono hb.turn hm⟩
theorem OwnB.alters {h : Nat} {W W' : World} {on ot : Value} {B : Brd} (hb : OwnB h W on ot B) {S : Nat → Prop} (ha : Alters S W W') (hS : ∀ k, S k → k < h ∨ W.heap.size ≤ k) : OwnB h W' on ot B := by
 obtain ⟨vs, hr⟩ := hb.rows
 refine ⟨⟨vs, hr.alters ha (fun k hk e => ?_) (fun k hk v hv e => ?_)⟩, hb.turn.alters ha (fun k hk e => ?_)⟩
 · have := World.ownsRow.lt hr.outer k e.symm
   have := hS k hk; omega
 · obtain ⟨i, hi⟩ := List.getElem?_of_mem hv
   have := World.ownsRow.lt (hr.own i v hi) k e.symm
   have := hS k hk; omega
 · have := World.ownsRow.lt hb.turn k e.symm
   have := hS k hk; omega
theorem OwnB.below {h : Nat} {W W' : World} {on ot : Value} {B : Brd} (hb : OwnB h W on ot B) (ha : Below W.heap.size W W') : OwnB h W' on ot B :=
 hb.alters (S := fun _ => False) (Alters.of_below ha) (fun _ h => h.elim)
theorem OwnB.held {h : Nat} {W : World} {on ot : Value} {B : Brd} (hb : OwnB h W on ot B) : ∃ an cn at_ ct, on = .slice an B.next.length cn ∧ ot = .slice at_ B.turn.length ct ∧ Held W.heap.size W an at_ B := by
 obtain ⟨vs, hr⟩ := hb.rows
 obtain ⟨an, cn, h1, h2⟩ := hr.rws
 obtain ⟨at_, ct, h3, h4⟩ := hb.turn.ints
 exact ⟨an, cn, at_, ct, h1, h3, h2, h4⟩
theorem info_row : (Tryz.prog.info? 32).map (fun i => (i.zero, i.size, i.bytes)) = some (some (.slice none 0 0), 1, 24) := by kernel_rfl
theorem info_int : (Tryz.prog.info? 3).map (fun i => (i.zero, i.size, i.bytes)) = some (some (.int .i64 0), 1, 8) := by kernel_rfl
end Go.Proofs.YtbmcngoeinginaaGreatDoor
namespace Go.Proofs.YtbmcngoeinginaaGreatDoor
open Go Go.RowKit Go.Shelf
theorem outTo_get (c : Int) (row : List Int) : ∀ k, k ≤ row.length → ∀ j, j < row.length → (outTo c row k)[j]?.getD 0 = if j < k ∧ ((j : Int) = c ∨ row[j]?.getD 0 = c) then -1 else row[j]?.getD 0
 | 0, _, j, _ => by simp [outTo]
 | k + 1, hk, j, hj => by
   have ih := outTo_get c row k (by omega) j hj;unfold outTo
   by_cases h : (k : Int) = c ∨ row[k]?.getD 0 = c
   · rw [if_pos h]
     by_cases e : k = j
     · subst e
       rw [List.getElem?_set_self (by rw [outTo_len]; omega), Option.getD_some, if_pos ⟨by omega, h⟩]
     · rw [List.getElem?_set_ne e, ih]
       by_cases h2 : j < k ∧ ((j : Int) = c ∨ row[j]?.getD 0 = c)
       · rw [if_pos h2, if_pos ⟨by omega, h2.2⟩]
       · rw [if_neg h2, if_neg (fun h3 => h2 ⟨by omega, h3.2⟩)]
   · rw [if_neg h, ih]
     by_cases h2 : j < k ∧ ((j : Int) = c ∨ row[j]?.getD 0 = c)
     · rw [if_pos h2, if_pos ⟨by omega, h2.2⟩]
     · rw [if_neg h2, if_neg (fun h3 => h2 ⟨by
         have := h3.1
         by_cases e : j = k
         · rw [e] at h3; exact absurd h3.2 h
         · omega, h3.2⟩)]
theorem outRow_len (c : Int) (row : List Int) : (outRow c row).length = row.length := outTo_len c row row.length
theorem outRow_get (c : Int) (row : List Int) {j : Nat} (hj : j < row.length) : (outRow c row)[j]?.getD 0 = if (j : Int) = c ∨ row[j]?.getD 0 = c then -1 else row[j]?.getD 0 := by
 unfold outRow
 rw [outTo_get c row row.length (Nat.le_refl _) j hj]
 by_cases h : (j : Int) = c ∨ row[j]?.getD 0 = c
 · rw [if_pos ⟨hj, h⟩, if_pos h]
 · rw [if_neg (fun h2 => h h2.2), if_neg h]
theorem step_call_g {w : World} {ops : Array Oper} {o : Oper} {a : Act} {K : Act → World → Prop} {Q : Exit → Act → World → Prop} {E : Prop} (hw : Region.wanted o (yielded ops a.tmps) = true) (f : Nat) (xs : Array Operand) (ts : Array TypeId) (args : Array Value)
   (ho : o.op = .call { callee := .value (.func f), args := xs, argTypes := ts }) (hal : xs.toList.map a.eval = args.toList) (eg : ∀ args w, (callFunc f args).run Tryz.prog w = .ok (.enter f args) w)
   (h : Calls Tryz.prog f args w fun e w' => ∃ v, e = .returned v ∧ K (a.put o.dst v) w') :
   if Region.wanted o (yielded ops a.tmps) = true then Oper.wp Tryz.prog o a w K Q else E := by
 rw [if_pos hw]
 have ha : xs.map a.eval = args := Array.ext' (by simpa using hal)
 have hr : (execOp a.eval o).run Tryz.prog w = .ok (.enter f args) w := by
   simp [execOp, ho, resolve, Deferred.ofValue, Act.eval, invoke] at ha ⊢
   rw [ha];exact eg args w
 unfold Oper.wp
 rw [hr]
 exact h.mono (by rintro e w' ⟨v, rfl, hk⟩; exact hk)
theorem step_append_all {w : World} {ops : Array Oper} {o : Oper} {a : Act} {K : Act → World → Prop} {Q : Exit → Act → World → Prop} {E : Prop} (hgd : o.guard = none) (s y : Operand)
   (ho : o.op = .call { callee := .builtin .append, args := #[s, y], argTypes := #[32, 32] }) (n : Nat) (v : Value) (l : List Int) (hs : a.eval s = v) (h : OwnInts n w v l) (hl : l.length < 2000) (hn : n ≤ w.heap.size)
   (b off c : Nat) (l2 : List Int) (hy : a.eval y = .slice (some ⟨b, off, none⟩) l2.length c) (hl2 : l2.length < 2000) (hx : ∀ j, j < l2.length → w.cell? ⟨b, off + j, none⟩ = some (.int .i64 (l2[j]?.getD 0)))
   (hK : ∀ v' w', OwnInts n w' v' (l ++ l2) → w.grownBy w' v.ownBlock → (v'.ownBlock = v.ownBlock ∨ v'.ownBlock = some w.heap.size) → K (a.put o.dst v') w') :
   if Region.wanted o (yielded ops a.tmps) = true then Oper.wp Tryz.prog o a w K Q else E := by
 have hw : Region.wanted o (yielded ops a.tmps) = true := by simp [Region.wanted, hgd]
 rw [if_pos hw]
 obtain ⟨i0, hi, hz0, hz1, hz2⟩ := info_parts (show (Tryz.prog.info? 3).map (fun i => (i.zero, i.size, i.bytes)) = some (some (.int .i64 0), 1, 8) by kernel_rfl)
 obtain ⟨v', w', hr, h2, h3, _, h5⟩ := run_append_own_at (P := Tryz.prog) w n 32 o.type 3 i0 (.int .i64 0) 1 8 Tryz.underlying32 hi hz0 hz1 hz2 rfl (by decide) v l.length (l.map (Value.int .i64)) h ⟨b, off, none⟩ l2.length c (l2.map (Value.int .i64)) (by simp)
   (by intro j u hj
       have hjl : j < l2.length := by have := (List.getElem?_eq_some_iff.1 hj).1; simpa using this
       have e : (⟨b, off, none⟩ : Addr).add j = ⟨b, off + j, none⟩ := by by_cases h : j = 0 <;> simp [Addr.add, h]
       rw [e, hx j hjl, ← hj]
       simp [hjl]) (by simp [Value.oneCell']) (by unfold maxLen; omega) (by omega) hn
 unfold Oper.wp
 simp [execOp, ho, resolve, invoke, builtin, hs, hy, hr, Result.andThen]
 refine hK v' w' ⟨by simp, ?_⟩ h3 h5
 have := h2.2
 simpa using this
def woEnt (c : Int) (r : List Int) (j : Nat) : Int := if (j : Int) = c ∨ r[j]?.getD 0 = c then -1 else r[j]?.getD 0
theorem woEnt_row (c : Int) (r : List Int) : (List.range r.length).map (woEnt c r) = outRow c r := by
 apply List.ext_getElem
 · simp [outRow_len]
 · intro j h1 h2
   have hj : j < r.length := by simpa using h1
   have := outRow_get c r hj;rw [List.getElem?_eq_getElem h2, Option.getD_some] at this;rw [this]
   simp [woEnt]
theorem woEnt_succ (c : Int) (r : List Int) (k : Nat) : (List.range (k + 1)).map (woEnt c r) = (List.range k).map (woEnt c r) ++ [woEnt c r k] := by simp [List.range_succ]
set_option maxRecDepth 100000 in
set_option maxHeartbeats 4000000 in
theorem refWo_any (B : Brd) (hB : B.Ok) (ht1 : 1 ≤ B.turn.length) (an at_ : Option Addr) (cn ct : Nat) (c : Int) (hc0 : 0 ≤ c) (hcn : c < B.cells) (w : World) (hH : Held w.heap.size w an at_ B) :
   Calls Tryz.prog 57 #[B.val an cn at_ ct, .int .i64 c] w fun e W' => ∃ on ot, e = .returned (.tuple #[.agg #[.int .i64 B.cells, on, ot], .int .i64 0]) ∧ OwnB w.heap.size W' on ot (withoutS B c) ∧ Below w.heap.size w W' := by
 have hlo := hB.lo
 have hhi := hB.hi
 have hdirs := hB.dirs
 have htl : B.turn.length ≤ 8 := by have := hB.turn; omega
 have t0 : decide (c < 0) = false := by simp; omega
 have t1 : decide (B.cells ≤ c) = false := by simp; omega
 have y0 := (InBox.new cn ct hH).up (below_alloc (Below.refl _ _) (.cells #[.int .i64 0, .slice none 0 0, .slice none 0 0] 34))
 have k4 : ((w.alloc (.cells #[.int .i64 B.cells, .slice an B.next.length cn, .slice at_ B.turn.length ct] 34)).alloc (.cells #[.int .i64 0, .slice none 0 0, .slice none 0 0] 34)).heap[w.heap.size + 1]? = some (.cells #[.int .i64 0, .slice none 0 0, .slice none 0 0] 34 (0, 0)) := by
   have := World.alloc_heap_new (w.alloc (.cells #[.int .i64 B.cells, .slice an B.next.length cn, .slice at_ B.turn.length ct] 34)) (.cells #[.int .i64 0, .slice none 0 0, .slice none 0 0] 34);rw [World.size_alloc] at this;exact this
 have hb1 : Below w.heap.size w ((w.alloc (.cells #[.int .i64 B.cells, .slice an B.next.length cn, .slice at_ B.turn.length ct] 34)).alloc (.cells #[.int .i64 0, .slice none 0 0, .slice none 0 0] 34)) := by exact BLW
 have hs1 : ((w.alloc (.cells #[.int .i64 B.cells, .slice an B.next.length cn, .slice at_ B.turn.length ct] 34)).alloc (.cells #[.int .i64 0, .slice none 0 0, .slice none 0 0] 34)).heap.size = w.heap.size + 2 := by simp
 obtain ⟨bt, ot, hat, hbt, _⟩ := hH.2.at_ (j := 0) (by omega)
 have hIt := hH.2
 subst hat
 obtain ⟨c0, c1, c2, _⟩ := id y0
 clear hH
 go_enter Tryz.func57, Tryz.ntmps57
 go_upto_region 3 with (fail)
 have hIt1 := (hIt.up (Nat.le_refl _) hb1)
 clear hIt c1
 generalize (w.alloc (.cells #[.int .i64 B.cells, .slice an B.next.length cn, .slice (some ⟨bt, ot, none⟩) B.turn.length ct] 34)).alloc (.cells #[.int .i64 0, .slice none 0 0, .slice none 0 0] 34) = w1 at *
 have HS1 := Lib.hid hs1
 have hs1' : w.heap.size + 2 ≤ w1.heap.size := by omega
 clear hs1
 go_cut [6] (fun s6 wx => ∃ (Bo : Nat) (tv : Value), s6 = .pointer (some ⟨Bo, 0, none⟩) ∧ Bld w1.heap.size Bo B.cells wx (.slice none 0 0) tv [] B.turn [] ∧ Below w1.heap.size w1 wx ∧ w1.heap.size ≤ Bo)
 case first =>
   have hxx : ∀ W : World, Below w1.heap.size w1 W → ∀ j, j < B.turn.length → W.cell? ⟨bt, ot + j, none⟩ = some (.int .i64 (B.turn[j]?.getD 0)) := fun W hW j hj => by
     obtain ⟨b, off, e, _, h⟩ := (hIt1.up (by omega) hW).at_ hj
     cases e
     exact h
   refine wp_region_held_drew (S := fun w' => w'.cell? ⟨w.heap.size, 0, none⟩ = some (.int .i64 B.cells) ∧ w'.cell? ⟨w.heap.size, 2, none⟩ = some (.slice (some ⟨bt, ot, none⟩) B.turn.length ct)) (by kernel_rfl) ⟨c0, c2⟩ (fun hHeld => ?_);refine TK 0 ?_;(try simp only [pS]);refine TK 1 ?_;(try simp only [pS]);refine TK 3 ?_;(try simp only [pS]);refine TK 4 ?_;(try simp only [pS]);refine wpAnyH_ready (rs := [2, 7]) (by kernel_rfl) (by simp) ?_;refine AC (fun K hK => ?_) (AC (fun K hK => ?_) AllReadyH.nil)
   · go_simp
     refine hK.out _ _ ⟨cell_alloc_keep hHeld.1 _, cell_alloc_keep hHeld.2 _⟩ (fun hS3 => ?_);clear hK K;(try simp only [pS]);refine wpAnyH_ready (rs := [5, 7]) (by kernel_rfl) (by simp) ?_;refine AC (fun K hK => ?_) (AC (fun K hK => ?_) AllReadyH.nil)
     · have hownE : OwnInts w1.heap.size (w1.alloc (.cells #[] 3)).drew (.slice (some ⟨w1.heap.size, 0, none⟩) 0 0) [] := own_empty w1
       have hbE : Below w1.heap.size w1 (w1.alloc (.cells #[] 3)).drew := by exact BLW
       refine step_append_all rfl (.tmp 22) (.tmp 24) rfl w1.heap.size (.slice (some ⟨w1.heap.size, 0, none⟩) 0 0) [] rfl hownE (by simp) hbE.size bt ot ct B.turn rfl (by omega) (hxx _ hbE) ?_;intro v2 w2 hown2 hg2 _;rw [List.nil_append] at hown2;obtain ⟨ov, cv, rfl, _⟩ := OwnInts.places hown2;have hb2 : Below w1.heap.size w1 w2 := push_below hbE (Below.refl _ _) hbE.size hownE hg2;have hS5 := And.intro (cell_keep hb2 c0) (cell_keep hb2 c2);refine hK.out _ _ hS5 (fun _ => ?_);clear hK K;(try simp only [pS]);refine TK 6 ?_;(try simp only [pS]);refine wpAnyH_ready (rs := [7]) (by kernel_rfl) (by simp) ?_;refine AC (fun K hK => ?_) AllReadyH.nil;go_simp;refine hK.out _ _ ⟨cell_alloc_keep hS5.1 _, cell_alloc_keep hS5.2 _⟩ (fun hS3 => ?_);clear hK K;(try simp only [pS]);refine wpAnyH_ready (rs := [8]) (by kernel_rfl) (by simp) ?_;refine AC (fun K hK => ?_) AllReadyH.nil;go_simp
       refine hK.out _ _ ⟨cell_alloc_keep hS5.1 _, cell_alloc_keep hS5.2 _⟩ (fun _ => ?_);clear hK K;(try simp only [pS]);refine wpAnyH_done (by kernel_rfl) ?_ _
       go_wp2_with fail; go_meet
       have hX : (w2.alloc (.cells #[.int .i64 B.cells, .slice none 0 0, .slice ov B.turn.length cv] 34)).heap[w2.heap.size]? = some (.cells #[.int .i64 B.cells, .slice none 0 0, .slice ov B.turn.length cv] 34 (0, 0)) := World.alloc_heap_new _ _;exact ⟨w2.heap.size, .slice ov B.turn.length cv, rfl, ⟨hX, RowsN.nil _ _, World.ownsRow.alloc hown2 _, fun _ _ v hv => by simp at hv⟩, below_alloc hb2 _, hb2.size⟩
     · go_simp
       refine hK.out _ _ ⟨cell_alloc_keep hS3.1 _, cell_alloc_keep hS3.2 _⟩ (fun hS3 => ?_);clear hK K;(try simp only [pS]);refine wpAnyH_ready (rs := [5]) (by kernel_rfl) (by simp) ?_;refine AC (fun K hK => ?_) AllReadyH.nil;have hownE : OwnInts w1.heap.size ((w1.alloc (.cells #[] 3)).alloc (.cells #[.int .i64 0, .slice none 0 0, .slice none 0 0] 34)).drew (.slice (some ⟨w1.heap.size, 0, none⟩) 0 0) [] := World.ownsRow.alloc (own_empty w1) _
       have hbE : Below w1.heap.size w1 ((w1.alloc (.cells #[] 3)).alloc (.cells #[.int .i64 0, .slice none 0 0, .slice none 0 0] 34)).drew := by exact BLW
       have hxE : ((w1.alloc (.cells #[] 3)).alloc (.cells #[.int .i64 0, .slice none 0 0, .slice none 0 0] 34)).drew.heap[w1.heap.size + 1]? = some (.cells #[.int .i64 0, .slice none 0 0, .slice none 0 0] 34 (0, 0)) := by
         have := World.alloc_heap_new (w1.alloc (.cells #[] 3)) (.cells #[.int .i64 0, .slice none 0 0, .slice none 0 0] 34);rw [World.size_alloc] at this;exact this
       refine step_append_all rfl (.tmp 22) (.tmp 24) rfl w1.heap.size (.slice (some ⟨w1.heap.size, 0, none⟩) 0 0) [] rfl hownE (by simp) hbE.size bt ot ct B.turn rfl (by omega) (hxx _ hbE) ?_;intro v2 w2 hown2 hg2 _;rw [List.nil_append] at hown2;obtain ⟨ov, cv, rfl, _⟩ := OwnInts.places hown2;have hb2 : Below w1.heap.size w1 w2 := push_below hbE (Below.refl _ _) hbE.size hownE hg2;have hS5 := And.intro (cell_keep hb2 c0) (cell_keep hb2 c2);refine hK.out _ _ hS5 (fun _ => ?_);clear hK K;(try simp only [pS]);have hh2 := (hg2.block (w1.heap.size + 1) (Array.getElem?_eq_some_iff.1 hxE).1 (by simp [Value.ownBlock])).trans hxE;have hBlt : (w1.heap.size + 1) < w2.heap.size := (Array.getElem?_eq_some_iff.1 hh2).1
       have hz0 : w2.cell? ⟨(w1.heap.size + 1), 0, none⟩ = some (.int .i64 0) := by unfold World.cell?; rw [hh2]; rfl
       have hz1 : w2.cell? ⟨(w1.heap.size + 1), 1, none⟩ = some (.slice none 0 0) := by unfold World.cell?; rw [hh2]; rfl
       have hz2 : w2.cell? ⟨(w1.heap.size + 1), 2, none⟩ = some (.slice none 0 0) := by unfold World.cell?; rw [hh2]; rfl
       have hf0 : w2.frozen? ⟨(w1.heap.size + 1), 0, none⟩ = false := by unfold World.frozen?; rw [hh2]; simp
       have hf1 : w2.frozen? ⟨(w1.heap.size + 1), 1, none⟩ = false := by unfold World.frozen?; rw [hh2]; simp
       have hf2 : w2.frozen? ⟨(w1.heap.size + 1), 2, none⟩ = false := by unfold World.frozen?; rw [hh2]; simp
       refine TK 6 ?_;(try simp only [pS]);refine wpAnyH_ready (rs := [8]) (by kernel_rfl) (by simp) ?_;refine AC (fun K hK => ?_) AllReadyH.nil;go_simp
       have hX : (((w2.setCell ⟨(w1.heap.size + 1), 0, none⟩ (.int .i64 B.cells)).setCell ⟨(w1.heap.size + 1), 1, none⟩ (.slice none 0 0)).setCell ⟨(w1.heap.size + 1), 2, none⟩ (.slice ov B.turn.length cv)).heap[(w1.heap.size + 1)]? = some (.cells #[.int .i64 B.cells, .slice none 0 0, .slice ov B.turn.length cv] 34 (0, 0)) := by
         simp [World.setCell, Array.getElem?_modify, hh2]
       have halX : Alters (fun k => k = (w1.heap.size + 1)) w2 (((w2.setCell ⟨(w1.heap.size + 1), 0, none⟩ (.int .i64 B.cells)).setCell ⟨(w1.heap.size + 1), 1, none⟩ (.slice none 0 0)).setCell ⟨(w1.heap.size + 1), 2, none⟩ (.slice ov B.turn.length cv)) :=
         ⟨rfl, rfl, rfl, by simp [World.setCell], fun k _ hk => ((Below.heap_setCell _ _ _ _ hk).trans (Below.heap_setCell _ _ _ _ hk)).trans (Below.heap_setCell _ _ _ _ hk)⟩
       have hownX := hown2.alters halX (fun k hk e => by rw [hk] at e; exact own_type hown2 hh2 (by decide) e)
       have hbX := hb2.trans (halX.below hb2.size (fun k hk => by omega));refine hK.out _ _ ⟨cell_keep hbX c0, cell_keep hbX c2⟩ (fun _ => ?_);clear hK K;(try simp only [pS]);refine wpAnyH_done (by kernel_rfl) ?_ _
       go_wp2_with fail; go_meet
       exact ⟨(w1.heap.size + 1), .slice ov B.turn.length cv, rfl, ⟨hX, RowsN.nil _ _, hownX, fun _ _ v hv => by simp at hv⟩, hbX, by omega⟩
   · go_simp
     refine hK.out _ _ ⟨cell_alloc_keep hHeld.1 _, cell_alloc_keep hHeld.2 _⟩ (fun hS3 => ?_);clear hK K;(try simp only [pS]);refine wpAnyH_ready (rs := [2]) (by kernel_rfl) (by simp) ?_;refine AC (fun K hK => ?_) AllReadyH.nil;go_simp;refine hK.out _ _ ⟨cell_alloc_keep hS3.1 _, cell_alloc_keep hS3.2 _⟩ (fun hS3 => ?_);clear hK K;(try simp only [pS]);refine wpAnyH_ready (rs := [5]) (by kernel_rfl) (by simp) ?_;refine AC (fun K hK => ?_) AllReadyH.nil
     have hownE : OwnInts w1.heap.size ((w1.alloc (.cells #[.int .i64 0, .slice none 0 0, .slice none 0 0] 34)).alloc (.cells #[] 3)).drew (.slice (some ⟨w1.heap.size + 1, 0, none⟩) 0 0) [] := by
       have := own_empty (w1.alloc (.cells #[.int .i64 0, .slice none 0 0, .slice none 0 0] 34));rw [World.size_alloc] at this;exact OwnInts.mono this (by omega)
     have hbE : Below w1.heap.size w1 ((w1.alloc (.cells #[.int .i64 0, .slice none 0 0, .slice none 0 0] 34)).alloc (.cells #[] 3)).drew := by exact BLW
     have hxE : ((w1.alloc (.cells #[.int .i64 0, .slice none 0 0, .slice none 0 0] 34)).alloc (.cells #[] 3)).drew.heap[w1.heap.size]? = some (.cells #[.int .i64 0, .slice none 0 0, .slice none 0 0] 34 (0, 0)) :=
       (Below.heap_alloc _ _ _ (by simp)).trans (World.alloc_heap_new w1 _)
     refine step_append_all rfl (.tmp 22) (.tmp 24) rfl w1.heap.size (.slice (some ⟨(w1.heap.size + 1), 0, none⟩) 0 0) [] rfl hownE (by simp) hbE.size bt ot ct B.turn rfl (by omega) (hxx _ hbE) ?_;intro v2 w2 hown2 hg2 _;rw [List.nil_append] at hown2;obtain ⟨ov, cv, rfl, _⟩ := OwnInts.places hown2;have hb2 : Below w1.heap.size w1 w2 := push_below hbE (Below.refl _ _) hbE.size hownE hg2;have hS5 := And.intro (cell_keep hb2 c0) (cell_keep hb2 c2);refine hK.out _ _ hS5 (fun _ => ?_);clear hK K;(try simp only [pS]);have hh2 := (hg2.block w1.heap.size (Array.getElem?_eq_some_iff.1 hxE).1 (by simp [Value.ownBlock])).trans hxE;have hBlt : w1.heap.size < w2.heap.size := (Array.getElem?_eq_some_iff.1 hh2).1
     have hz0 : w2.cell? ⟨w1.heap.size, 0, none⟩ = some (.int .i64 0) := by unfold World.cell?; rw [hh2]; rfl
     have hz1 : w2.cell? ⟨w1.heap.size, 1, none⟩ = some (.slice none 0 0) := by unfold World.cell?; rw [hh2]; rfl
     have hz2 : w2.cell? ⟨w1.heap.size, 2, none⟩ = some (.slice none 0 0) := by unfold World.cell?; rw [hh2]; rfl
     have hf0 : w2.frozen? ⟨w1.heap.size, 0, none⟩ = false := by unfold World.frozen?; rw [hh2]; simp
     have hf1 : w2.frozen? ⟨w1.heap.size, 1, none⟩ = false := by unfold World.frozen?; rw [hh2]; simp
     have hf2 : w2.frozen? ⟨w1.heap.size, 2, none⟩ = false := by unfold World.frozen?; rw [hh2]; simp
     refine TK 6 ?_;(try simp only [pS]);refine wpAnyH_ready (rs := [8]) (by kernel_rfl) (by simp) ?_;refine AC (fun K hK => ?_) AllReadyH.nil;go_simp
     have hX : (((w2.setCell ⟨w1.heap.size, 0, none⟩ (.int .i64 B.cells)).setCell ⟨w1.heap.size, 1, none⟩ (.slice none 0 0)).setCell ⟨w1.heap.size, 2, none⟩ (.slice ov B.turn.length cv)).heap[w1.heap.size]? = some (.cells #[.int .i64 B.cells, .slice none 0 0, .slice ov B.turn.length cv] 34 (0, 0)) := by
       simp [World.setCell, Array.getElem?_modify, hh2]
     have halX : Alters (fun k => k = w1.heap.size) w2 (((w2.setCell ⟨w1.heap.size, 0, none⟩ (.int .i64 B.cells)).setCell ⟨w1.heap.size, 1, none⟩ (.slice none 0 0)).setCell ⟨w1.heap.size, 2, none⟩ (.slice ov B.turn.length cv)) :=
       ⟨rfl, rfl, rfl, by simp [World.setCell], fun k _ hk => ((Below.heap_setCell _ _ _ _ hk).trans (Below.heap_setCell _ _ _ _ hk)).trans (Below.heap_setCell _ _ _ _ hk)⟩
     have hownX := hown2.alters halX (fun k hk e => by rw [hk] at e; exact own_type hown2 hh2 (by decide) e)
     have hbX := hb2.trans (halX.below hb2.size (fun k hk => by omega));refine hK.out _ _ ⟨cell_keep hbX c0, cell_keep hbX c2⟩ (fun _ => ?_);clear hK K;(try simp only [pS]);refine wpAnyH_done (by kernel_rfl) ?_ _
     go_wp2_with fail; go_meet
     exact ⟨w1.heap.size, .slice ov B.turn.length cv, rfl, ⟨hX, RowsN.nil _ _, hownX, fun _ _ v hv => by simp at hv⟩, hbX, by omega⟩
 case rest =>
   obtain ⟨Bo, tv, rfl, hb, hbw, hBo⟩ := hcut;clear hIt1 c0 c2 t0 t1
   go_wp2_with fail
   go_loopw [7] (fun i wr => ∃ (d : Nat) (on : Value) (vs : List Value), d ≤ B.next.length ∧ i = .int .i64 d ∧ Bld w1.heap.size Bo B.cells wr on tv ((B.next.take d).map (outRow c)) B.turn vs ∧ Below w1.heap.size w1 wr)
     (fun i _ => B.next.length - (intOf i).toNat)
   case atStart => exact ⟨0, _, [], Nat.zero_le _, rfl, by simpa using hb, hbw⟩
   case round =>
     clear hb hbw;obtain ⟨d, on, vs, hd, rfl, hb, hbw⟩ := hrel;generalize wr = w4 at *;have y := y0.up hbw;obtain ⟨c0, c1, c2, hH⟩ := id y
     by_cases hlt : d < B.next.length
     · obtain ⟨br, off, aj, cj, hab, hbN, hcr, hI⟩ := hH.1.at_ hlt
       subst hab;have hrl := hB.row d hlt;generalize hr : B.next[d]?.getD [] = r at hcr hI hrl;have HRL := Lib.hid hrl;have HR := Lib.hid hr
       have hrn : r.length ≤ 64 := by omega
       have hr1 : 1 ≤ r.length := by omega
       clear hrl hr
       go_wp2_with fail
       have hown5 : OwnInts w4.heap.size (w4.alloc (.cells #[] 3)) (.slice (some ⟨w4.heap.size, 0, none⟩) 0 0) ((List.range 0).map (woEnt c r)) := own_empty w4;have hB5 : Below w4.heap.size w4 (w4.alloc (.cells #[] 3)) := (Below.refl _ _).alloc (Nat.le_refl _) _;generalize w4.alloc (.cells #[] 3) = w5 at *;clear c0 c1 c2 hH
       go_loopw [8, 9] (fun l i wi => ∃ x : Nat, x ≤ r.length ∧ i = .int .i64 x ∧ OwnInts w4.heap.size wi l ((List.range x).map (woEnt c r)) ∧ Below w4.heap.size w4 wi)
         (fun _ i _ => r.length - (intOf i).toNat)
       case atStart => exact ⟨0, Nat.zero_le _, rfl, hown5, hB5⟩
       case round =>
         clear hown5 hB5;obtain ⟨x, hx, rfl, ho, hbi⟩ := hrel;obtain ⟨c0, c1, c2, _⟩ := y.up hbi
         by_cases hxl : x < r.length
         · have hcr' := cell_keep hbi hcr
           have tx : decide ((x : Int) < B.cells) = true := by have := HRL.out; simp; omega
           obtain ⟨b2, off2, haj, hb2, hcc⟩ := (hI.up (Nat.le_refl _) hbi).at_ (j := x) hxl;subst haj;have hsuc := woEnt_succ c r x
           have hlen : ((List.range x).map (woEnt c r)).length = x := by simp
           have hee : woEnt c r x = if (x : Int) = c ∨ r[x]?.getD 0 = c then -1 else r[x]?.getD 0 := rfl;generalize hL : (List.range x).map (woEnt c r) = L at ho hlen hsuc;generalize r[x]?.getD 0 = tz at hcc hee;generalize woEnt c r x = ee at hsuc hee;have HS := Lib.hid hsuc;have HLN := Lib.hid (show L.length ≤ 64 by omega);have HXL := Lib.hid hxl;have HN := Lib.hid ho;clear hL hlen hsuc ho
           by_cases h1 : (x : Int) = c
           · have u1 : ((x : Int) == c) = true := by simpa using h1
             have u2 : decide ((x : Int) = c) = true := by simpa using h1
             have HE := Lib.hid (by rw [hee, if_pos (.inl h1)] : ee = -1);have HNA := Lib.hid (HN.out.alters (S := fun _ => False) (Alters.of_below (((Below.refl _ wr).alloc (Nat.le_refl _) (.cells #[.int .i64 (-1)] 3)) : Below wr.heap.size wr (wr.alloc (.cells #[.int .i64 (-1)] 3)))) (fun _ h => h.elim));clear hee h1
             go_wp2_with (at_builtin; go_loud (refine wpList_push rfl (.tmp 57) (.tmp 59) rfl w4.heap.size _ L rfl HNA.out (by have := HLN.out; omega) (by have := hbi.size; simp; omega) ⟨wr.heap.size, 0, none⟩ (-1) rfl (cell_new_at _ _ _ _ _ _ rfl rfl) ?_; intro g6 cap6 w6 hown6 hg6 hat6))
             have hb6 := push_below hbi (((Below.refl _ wr).alloc (Nat.le_refl _) _) : Below wr.heap.size wr (wr.alloc (.cells #[.int .i64 (-1)] 3))) hbi.size HN.out hg6;clear hat6
             go_roundw
             case rel => exact ⟨x + 1, by have := HXL.out; omega, by simp, by rw [HS.out, HE.out]; exact hown6, hb6⟩
             case measure => simp [intOf]; have := HXL.out; omega
           · have u1 : ((x : Int) == c) = false := by simpa using h1
             have u2 : decide ((x : Int) = c) = false := by simpa using h1
             by_cases h2 : tz = c
             · have u3 : (tz == c) = true := by simpa using h2
               have u4 : decide (tz = c) = true := by simpa using h2
               have HE := Lib.hid (by rw [hee, if_pos (.inr h2)] : ee = -1);have HNA := Lib.hid (HN.out.alters (S := fun _ => False) (Alters.of_below (((Below.refl _ wr).alloc (Nat.le_refl _) (.cells #[.int .i64 (-1)] 3)) : Below wr.heap.size wr (wr.alloc (.cells #[.int .i64 (-1)] 3)))) (fun _ h => h.elim));clear hee h1 h2
               go_wp2_with (at_builtin; go_loud (refine wpList_push rfl (.tmp 57) (.tmp 59) rfl w4.heap.size _ L rfl HNA.out (by have := HLN.out; omega) (by have := hbi.size; simp; omega) ⟨wr.heap.size, 0, none⟩ (-1) rfl (cell_new_at _ _ _ _ _ _ rfl rfl) ?_; intro g6 cap6 w6 hown6 hg6 hat6))
               have hb6 := push_below hbi (((Below.refl _ wr).alloc (Nat.le_refl _) _) : Below wr.heap.size wr (wr.alloc (.cells #[.int .i64 (-1)] 3))) hbi.size HN.out hg6;clear hat6
               go_roundw
               case rel => exact ⟨x + 1, by have := HXL.out; omega, by simp, by rw [HS.out, HE.out]; exact hown6, hb6⟩
               case measure => simp [intOf]; have := HXL.out; omega
             · have u3 : (tz == c) = false := by simpa using h2
               have u4 : decide (tz = c) = false := by simpa using h2
               have HE := Lib.hid (by rw [hee, if_neg (by rintro (h | h); exact h1 h; exact h2 h)] : ee = tz)
               have HNA := Lib.hid (HN.out.alters (S := fun _ => False) (Alters.of_below (((Below.refl _ wr).alloc (Nat.le_refl _) (.cells #[.int .i64 tz] 3)) : Below wr.heap.size wr (wr.alloc (.cells #[.int .i64 tz] 3)))) (fun _ h => h.elim));clear hee h1 h2
               go_wp2_with (at_builtin; go_loud (refine wpList_push rfl (.tmp 57) (.tmp 59) rfl w4.heap.size _ L rfl HNA.out (by have := HLN.out; omega) (by have := hbi.size; simp; omega) ⟨wr.heap.size, 0, none⟩ tz rfl (cell_new_at _ _ _ _ _ _ rfl rfl) ?_; intro g6 cap6 w6 hown6 hg6 hat6))
               have hb6 := push_below hbi (((Below.refl _ wr).alloc (Nat.le_refl _) _) : Below wr.heap.size wr (wr.alloc (.cells #[.int .i64 tz] 3))) hbi.size HN.out hg6;clear hat6
               go_roundw
               case rel => exact ⟨x + 1, by have := HXL.out; omega, by simp, by rw [HS.out, HE.out]; exact hown6, hb6⟩
               case measure => simp [intOf]; have := HXL.out; omega
         · obtain rfl : x = r.length := by omega
           have tx : decide (((r.length : Nat) : Int) < B.cells) = false := by have := HRL.out; simp; omega
           rw [woEnt_row] at ho;obtain ⟨o6, cp6, rfl, _⟩ := OwnInts.places ho;have hrl2 : (outRow c r).length = r.length := outRow_len c r;rw [hrl2] at ho ⊢;have hbB := hb.below hbi;have hbwx : Below w1.heap.size w1 wr := hbw.trans (hbi.mono hbw.size)
           have hGot : ∀ k, some k = tv.ownBlock → ¬ some k = (Value.slice o6 r.length cp6).ownBlock := fun k e e2 => by
             have h1 := (hb.own_ot e).2;have h2 := (World.ownsRow.lt ho k e2.symm).1
             omega
           have hown0 : OwnInts w1.heap.size wr (.slice o6 r.length cp6) (outRow c r) := OwnInts.mono ho hbw.size
           have hlenN : ((B.next.take d).map (outRow c)).length = d := by simp; omega
           have HLN := Lib.hid hlenN
           have HRO := Lib.hid (by have := (hbB.below ((Below.refl _ wr).alloc (Nat.le_refl _) (.cells #[.slice o6 r.length cp6] 32))).rows.outer; rwa [hlenN] at this : (wr.alloc (.cells #[.slice o6 r.length cp6] 32)).ownsRow w1.heap.size 32 1 on d vs)
           have HOW := Lib.hid hown0;have HBX := Lib.hid hbB;obtain ⟨_, hcx1, _, _, _⟩ := hbB.cell;obtain ⟨j0, hj, hy0, hy1, hy2⟩ := info_parts info_row
           have hdl : d ≤ 8 := by omega
           have HRL2 := Lib.hid hrl2;clear hlenN hown0 hb hbi hrl2 ho
           go_wp2_with (at_builtin; go_loud (refine wpList_append_own_at _ rfl (.tmp 62) (.tmp 64) 31 rfl w1.heap.size 32 j0 (.slice none 0 0) 1 24 Tryz.underlying31 hj hy0 hy1 hy2 rfl (by decide) on d vs rfl HRO.out ⟨wr.heap.size, 0, none⟩ 1 1 [.slice o6 r.length cp6] rfl rfl (cell_one_new _ _ _) (by simp [Value.oneCell']) (by unfold maxLen; omega) (by omega) (by have := hbwx.size; simp; omega) ?_; intro v6 w6 hown6 hgrow6 _ hat6; obtain ⟨g6, cap6, rfl⟩ := ownsRow_succ hown6; have hg6 := HBX.out.grown_on hgrow6; have hc6 : w6.cell? ⟨Bo, 1, none⟩ = some on := by { unfold World.cell?; rw [hg6]; rfl }; have hf6 : w6.frozen? ⟨Bo, 1, none⟩ = false := by { unfold World.frozen?; rw [hg6]; simp }; clear hg6))
           obtain ⟨hb7, hal7⟩ := HBX.out.next HOW.out hGot (by rw [HLN.out]; exact hown6) hgrow6
           have hbw7 : Below w1.heap.size w1 _ := hbwx.trans (hal7.below hbwx.size (fun k hk => by
             rcases hk with rfl | hk
             · omega
             · exact (HBX.out.own_on hk).1))
           have hBk : B.next[d]? = some r := by rw [← HR.out]; simp [hlt]
           have hmr : (B.next.take (d + 1)).map (outRow c) = (B.next.take d).map (outRow c) ++ [outRow c r] := by rw [List.take_add_one, hBk]; simp
           rw [← hmr] at hb7;have HB7 := Lib.hid hb7;clear hmr hal7 hown6 hgrow6 hat6 hb7 hBk
           go_roundw
           case rel => exact ⟨d + 1, _, _, by omega, by simp, HB7.out, hbw7⟩
           case measure => simp [intOf]; omega
     · obtain rfl : d = B.next.length := by omega
       have hfull : (B.next.take B.next.length).map (outRow c) = (withoutS B c).next := by simp [withoutS]
       rw [hfull] at hb;obtain ⟨an', cn', at', ct', rfl, rfl, hRw, hTu⟩ := hb.held;obtain ⟨q0, q1, q2, _, _⟩ := hb.cell;have hz := (hbw.block _ (by omega)).trans k4
       have z0 : w4.cell? ⟨w.heap.size + 1, 0, none⟩ = some (.int .i64 0) := by unfold World.cell?; rw [hz]; rfl
       have z1 : w4.cell? ⟨w.heap.size + 1, 1, none⟩ = some (.slice none 0 0) := by unfold World.cell?; rw [hz]; rfl
       have z2 : w4.cell? ⟨w.heap.size + 1, 2, none⟩ = some (.slice none 0 0) := by unfold World.cell?; rw [hz]; rfl
       have f0 : w4.frozen? ⟨w.heap.size + 1, 0, none⟩ = false := by unfold World.frozen?; rw [hz]; simp
       have f1 : w4.frozen? ⟨w.heap.size + 1, 1, none⟩ = false := by unfold World.frozen?; rw [hz]; simp
       have f2 : w4.frozen? ⟨w.heap.size + 1, 2, none⟩ = false := by unfold World.frozen?; rw [hz]; simp
       have hal : Alters (fun k => k = w.heap.size + 1) w4 (((w4.setCell ⟨w.heap.size + 1, 0, none⟩ (.int .i64 B.cells)).setCell ⟨w.heap.size + 1, 1, none⟩ (.slice an' (withoutS B c).next.length cn')).setCell ⟨w.heap.size + 1, 2, none⟩ (.slice at' B.turn.length ct')) :=
         ⟨rfl, rfl, rfl, by simp [World.setCell], fun k _ hk => ((Below.heap_setCell _ _ _ _ hk).trans (Below.heap_setCell _ _ _ _ hk)).trans (Below.heap_setCell _ _ _ _ hk)⟩
       have hbN := hb.alters hal (by omega) (fun k hk => by rw [hk]; exact own_type hb.rows.outer hz (by decide)) (fun k hk => by rw [hk]; exact own_type hb.turn hz (by decide)) (fun k hk v hv => by
         rw [hk];obtain ⟨i, hi⟩ := List.getElem?_of_mem hv;exact own_type (hb.rows.own i v hi) hz (by decide))
       have hbw2 : Below w.heap.size w w4 := hb1.trans (hbw.mono (by omega));have hbwN := hbw2.trans (hal.below hbw2.size (fun k hk => by omega));have HBN := Lib.hid hbN;have HBo := Lib.hid (show w.heap.size + 2 ≤ Bo by omega);clear hz hb hbN hal hRw hTu hfull;go_wp2
       refine bodyPost_ret_by (v := .tuple #[.agg #[.int .i64 B.cells, .slice an' (withoutS B c).next.length cn', .slice at' B.turn.length ct'], .int .i64 0]) (by rw [results_cell_tmp rfl]; go_simp) rfl ?_
       exact ⟨_, _, rfl, ⟨⟨_, HBN.out.rows.low (by omega)⟩, OwnInts.mono HBN.out.turn (by omega)⟩, hbwN⟩
end Go.Proofs.YtbmcngoeinginaaGreatDoor
namespace Go.Proofs.YtbmcngoeinginaaGreatDoor
open Go Go.RowKit Go.Shelf
def dxL : List Int := [0, 1, 1, 1, 0, -1, -1, -1]
def dyL : List Int := [-1, -1, 0, 1, 1, 1, 0, -1]
def gIn (W H : Nat) (x y : Int) : Int := if x < 0 ∨ (W : Int) ≤ x ∨ y < 0 ∨ (H : Int) ≤ y then -1 else y * W + x
def gEnt (W H d c : Nat) : Int := gIn W H (((c % W : Nat) : Int) + dxL[d]?.getD 0) (((c / W : Nat) : Int) + dyL[d]?.getD 0)
def gRow (W H d : Nat) : List Int := (List.range (W * H)).map (gEnt W H d)
def gTurn (d : Nat) : List Int := (List.range d).map fun d => (((d + 4) % 8 : Nat) : Int)
def gridB (W H : Nat) : Brd := { cells := ((W * H : Nat) : Int), next := (List.range 8).map (gRow W H), turn := gTurn 8 }
theorem gTurn_succ (d : Nat) : gTurn (d + 1) = gTurn d ++ [(((d + 4) % 8 : Nat) : Int)] := by simp [gTurn, List.range_succ]
theorem gTurn_len (d : Nat) : (gTurn d).length = d := by simp [gTurn]
theorem dxL_in (d : Nat) : -1 ≤ dxL[d]?.getD 0 ∧ dxL[d]?.getD 0 ≤ 1 := by
 by_cases h : d < 8
 · have : d = 0 ∨ d = 1 ∨ d = 2 ∨ d = 3 ∨ d = 4 ∨ d = 5 ∨ d = 6 ∨ d = 7 := by omega
   rcases this with rfl | rfl | rfl | rfl | rfl | rfl | rfl | rfl <;> decide
 · have : dxL[d]? = none := by simp [dxL]; omega
   rw [this]; decide
theorem dyL_in (d : Nat) : -1 ≤ dyL[d]?.getD 0 ∧ dyL[d]?.getD 0 ≤ 1 := by
 by_cases h : d < 8
 · have : d = 0 ∨ d = 1 ∨ d = 2 ∨ d = 3 ∨ d = 4 ∨ d = 5 ∨ d = 6 ∨ d = 7 := by omega
   rcases this with rfl | rfl | rfl | rfl | rfl | rfl | rfl | rfl <;> decide
 · have : dyL[d]? = none := by simp [dyL]; omega
   rw [this]; decide
set_option maxRecDepth 100000 in
set_option maxHeartbeats 4000000 in
theorem ggrid_any (W H : Nat) (h1 : 1 ≤ W) (h2 : W ≤ 3) (h3 : 1 ≤ H) (h4 : H ≤ 3) (w : World) :
   Calls Tryz.prog 56 #[.int .i64 W, .int .i64 H] w fun e W' => ∃ on ot, e = .returned (.tuple #[.agg #[.int .i64 ((W * H : Nat) : Int), on, ot], .int .i64 0]) ∧ OwnB w.heap.size W' on ot (gridB W H) ∧ Below w.heap.size w W' := by
 obtain ⟨n, hn⟩ : ∃ n, n = W * H := ⟨_, rfl⟩
 have hn1 : 1 ≤ n := by rw [hn]; exact Nat.mul_pos h1 h3
 have hn9 : n ≤ 9 := by rw [hn]; exact Nat.mul_le_mul h2 h4
 have hm : (W : Int) * (H : Int) = (n : Int) := by rw [hn]; simp
 have t0 : decide ((W : Int) < 1) = false := by simp; omega
 have t1 : decide ((H : Int) < 1) = false := by simp; omega
 have t2 : decide (64 < (W : Int)) = false := by simp; omega
 have t3 : decide (64 < (H : Int)) = false := by simp; omega
 have t4 : decide (64 < (n : Int)) = false := by simp; omega
 have t5 : IntKind.i64.wrap ((W : Int) * (H : Int)) = (n : Int) := by rw [hm]; exact IntWalk.i64_in _ (by omega)
 have HM := Lib.hid hm
 have HN0 := Lib.hid hn
 clear hm hn
 go_enter Tryz.func56, Tryz.ntmps56
 go_wp2_with fail
 have k4 : ((((w.alloc (.cells #[.int .i64 0, .slice none 0 0, .slice none 0 0] 34)).alloc (.cells #[.int .i64 0, .int .i64 1, .int .i64 1, .int .i64 1, .int .i64 0, .int .i64 (-1), .int .i64 (-1), .int .i64 (-1)] 3)).alloc (.cells #[.int .i64 (-1), .int .i64 (-1), .int .i64 0, .int .i64 1, .int .i64 1, .int .i64 1, .int .i64 0, .int .i64 (-1)] 3))).heap[w.heap.size]? = some (.cells #[.int .i64 0, .slice none 0 0, .slice none 0 0] 34 (0, 0)) :=
   ((Below.heap_alloc _ _ _ (by simp; omega)).trans (Below.heap_alloc _ _ _ (by simp))).trans (World.alloc_heap_new _ _)
 have hdx : ∀ d : Nat, d < 8 → ((((w.alloc (.cells #[.int .i64 0, .slice none 0 0, .slice none 0 0] 34)).alloc (.cells #[.int .i64 0, .int .i64 1, .int .i64 1, .int .i64 1, .int .i64 0, .int .i64 (-1), .int .i64 (-1), .int .i64 (-1)] 3)).alloc (.cells #[.int .i64 (-1), .int .i64 (-1), .int .i64 0, .int .i64 1, .int .i64 1, .int .i64 1, .int .i64 0, .int .i64 (-1)] 3))).cell? ⟨w.heap.size + 1, d, none⟩ = some (.int .i64 (dxL[d]?.getD 0)) := fun d hd => by
   refine cell_alloc_keep (cell_new_at _ _ _ _ _ _ (by simp) ?_) _
   have : d = 0 ∨ d = 1 ∨ d = 2 ∨ d = 3 ∨ d = 4 ∨ d = 5 ∨ d = 6 ∨ d = 7 := by omega
   rcases this with rfl | rfl | rfl | rfl | rfl | rfl | rfl | rfl <;> rfl
 have hdy : ∀ d : Nat, d < 8 → ((((w.alloc (.cells #[.int .i64 0, .slice none 0 0, .slice none 0 0] 34)).alloc (.cells #[.int .i64 0, .int .i64 1, .int .i64 1, .int .i64 1, .int .i64 0, .int .i64 (-1), .int .i64 (-1), .int .i64 (-1)] 3)).alloc (.cells #[.int .i64 (-1), .int .i64 (-1), .int .i64 0, .int .i64 1, .int .i64 1, .int .i64 1, .int .i64 0, .int .i64 (-1)] 3))).cell? ⟨w.heap.size + 1 + 1, d, none⟩ = some (.int .i64 (dyL[d]?.getD 0)) := fun d hd => by
   refine cell_new_at _ _ _ _ _ _ (by simp) ?_
   have : d = 0 ∨ d = 1 ∨ d = 2 ∨ d = 3 ∨ d = 4 ∨ d = 5 ∨ d = 6 ∨ d = 7 := by omega
   rcases this with rfl | rfl | rfl | rfl | rfl | rfl | rfl | rfl <;> rfl
 have hb0 : Below w.heap.size w ((((w.alloc (.cells #[.int .i64 0, .slice none 0 0, .slice none 0 0] 34)).alloc (.cells #[.int .i64 0, .int .i64 1, .int .i64 1, .int .i64 1, .int .i64 0, .int .i64 (-1), .int .i64 (-1), .int .i64 (-1)] 3)).alloc (.cells #[.int .i64 (-1), .int .i64 (-1), .int .i64 0, .int .i64 1, .int .i64 1, .int .i64 1, .int .i64 0, .int .i64 (-1)] 3))) := by exact BLW
 have hs0 : ((((w.alloc (.cells #[.int .i64 0, .slice none 0 0, .slice none 0 0] 34)).alloc (.cells #[.int .i64 0, .int .i64 1, .int .i64 1, .int .i64 1, .int .i64 0, .int .i64 (-1), .int .i64 (-1), .int .i64 (-1)] 3)).alloc (.cells #[.int .i64 (-1), .int .i64 (-1), .int .i64 0, .int .i64 1, .int .i64 1, .int .i64 1, .int .i64 0, .int .i64 (-1)] 3))).heap.size = w.heap.size + 1 + 1 + 1 := by simp
 generalize ((((w.alloc (.cells #[.int .i64 0, .slice none 0 0, .slice none 0 0] 34)).alloc (.cells #[.int .i64 0, .int .i64 1, .int .i64 1, .int .i64 1, .int .i64 0, .int .i64 (-1), .int .i64 (-1), .int .i64 (-1)] 3)).alloc (.cells #[.int .i64 (-1), .int .i64 (-1), .int .i64 0, .int .i64 1, .int .i64 1, .int .i64 1, .int .i64 0, .int .i64 (-1)] 3))) = w3 at *
 have hs3 : w.heap.size + 1 + 1 < w3.heap.size := by omega
 rw [← hs0]
 clear hs0
 have hbs : Bld w3.heap.size w3.heap.size n (w3.alloc (.cells #[.int .i64 n, .slice none 0 0, .slice none 0 0] 34)) (.slice none 0 0) (.slice none 0 0) ((List.range 0).map (gRow W H)) (gTurn 0) [] :=
   ⟨World.alloc_heap_new _ _, RowsN.nil _ _, ⟨rfl, .inl ⟨rfl, rfl⟩⟩, fun _ _ v hv => by simp at hv⟩
 have hbw0 : Below w3.heap.size w3 (w3.alloc (.cells #[.int .i64 n, .slice none 0 0, .slice none 0 0] 34)) := by exact BLW
 go_loopw [9] (fun i wr => ∃ (d : Nat) (on ot : Value) (vs : List Value), d ≤ 8 ∧ i = .int .i64 d ∧ Bld w3.heap.size w3.heap.size n wr on ot ((List.range d).map (gRow W H)) (gTurn d) vs ∧ Below w3.heap.size w3 wr)
   (fun i _ => 8 - (intOf i).toNat)
 case atStart => exact ⟨0, _, _, [], by omega, rfl, hbs, hbw0⟩
 case round =>
   clear hbs hbw0;obtain ⟨d, on, ot, vs, hd, rfl, hb, hbw⟩ := hrel;generalize wr = w4 at *
   by_cases hlt : d < 8
   · have td : decide ((d : Int) < 8) = true := by simp; omega
     go_wp2_with fail
     have hown5 : OwnInts w4.heap.size (w4.alloc (.cells #[] 3)) (.slice (some ⟨w4.heap.size, 0, none⟩) 0 0) ((List.range 0).map (gEnt W H d)) := own_empty w4;have hB5 : Below w4.heap.size w4 (w4.alloc (.cells #[] 3)) := (Below.refl _ _).alloc (Nat.le_refl _) _;generalize w4.alloc (.cells #[] 3) = w5 at *
     go_loopw [10, 11] (fun l i wi => ∃ x : Nat, x ≤ n ∧ i = .int .i64 x ∧ OwnInts w4.heap.size wi l ((List.range x).map (gEnt W H d)) ∧ Below w4.heap.size w4 wi)
       (fun _ i _ => n - (intOf i).toNat)
     case atStart => exact ⟨0, Nat.zero_le _, rfl, hown5, hB5⟩
     case round =>
       clear hown5 hB5;obtain ⟨x, hx, rfl, ho, hbi⟩ := hrel
       by_cases hxl : x < n
       · have tx : decide ((x : Int) < (n : Int)) = true := by simp; omega
         have hXW : x % W < W := Nat.mod_lt _ h1
         have hYH : x / W < H := by
           have := HN0.out;rw [Nat.div_lt_iff_lt_mul h1]
           rw [Nat.mul_comm]; omega
         have hbwx : Below w3.heap.size w3 wr := hbw.trans (hbi.mono hbw.size);have cx := cell_keep hbwx (hdx d hlt);have cy := cell_keep hbwx (hdy d hlt);have bx := dxL_in d;have by_ := dyL_in d;have hee : gEnt W H d x = gIn W H (((x % W : Nat) : Int) + dxL[d]?.getD 0) (((x / W : Nat) : Int) + dyL[d]?.getD 0) := rfl
         have hsuc : (List.range (x + 1)).map (gEnt W H d) = (List.range x).map (gEnt W H d) ++ [gEnt W H d x] := by simp [List.range_succ]
         have hlen : ((List.range x).map (gEnt W H d)).length = x := by simp
         have e1 : (x : Int).tmod (W : Int) = ((x % W : Nat) : Int) := rfl;have e2 : (x : Int).tdiv (W : Int) = ((x / W : Nat) : Int) := rfl
         have e0 : ((W : Int) == 0) = false := by simp; omega
         have e00 : ¬ ((W : Int) = 0) := by omega
         have e01 : ¬ (W = 0) := by omega
         have e02 : (W == 0) = false := by simp; omega
         have f1 : decide (8 ≤ d) = false := by simp; omega
         have f2 : (d : Int) < 8 := by omega
         generalize gX : x % W = X at *;generalize gY : x / W = Y at *;generalize dxL[d]?.getD 0 = dx at *;generalize dyL[d]?.getD 0 = dy at *;generalize gEnt W H d x = ee at *;generalize (List.range x).map (gEnt W H d) = L at *;have e3 : IntKind.i64.wrap (X : Int) = (X : Int) := IntWalk.i64_in _ (by omega);have e4 : IntKind.i64.wrap (Y : Int) = (Y : Int) := IntWalk.i64_in _ (by omega);have e5 : IntKind.i64.wrap ((X : Int) + dx) = (X : Int) + dx := IntWalk.i64_in _ (by omega);have e6 : IntKind.i64.wrap ((Y : Int) + dy) = (Y : Int) + dy := IntWalk.i64_in _ (by omega);have HS := Lib.hid hsuc;have HLN := Lib.hid (show L.length ≤ 64 by omega);have HXL := Lib.hid hxl;have HN := Lib.hid ho;have HLL := Lib.hid hlen;clear hlen hsuc ho
         go_wp2_with fail
         refine wp_region_quiet_lit (by kernel_rfl) (by kernel_rfl) ?_
         iterate 9
           refine wpQuiet_val (v := ?_) (by rfl) ?_ ?_;rotate_left
           · ((intro W hW; (try cases hW); go_simp); try with_reducible rfl)
           (try simp only [pS])
         refine wpQuiet_nil ?_;intro _ hw';obtain ⟨nq, hw''⟩ := hw';subst hw''
         go_wp2_with fail
         refine wp_region_quiet_lit (by kernel_rfl) (by kernel_rfl) ?_
         iterate 9
           refine wpQuiet_val (v := ?_) (by rfl) ?_ ?_;rotate_left
           · ((intro W hW; (try cases hW); go_simp); try with_reducible rfl)
           (try simp only [pS])
         refine wpQuiet_nil ?_;intro _ hw';obtain ⟨mq, hw''⟩ := hw';subst hw''
         have hpx : -1 ≤ (X : Int) + dx ∧ (X : Int) + dx ≤ 4 := by omega
         have hpy : -1 ≤ (Y : Int) + dy ∧ (Y : Int) + dy ≤ 4 := by omega
         clear e1 e2 e3 e4 e5 e6 gX gY cx cy bx by_ hXW hYH e0 e00 e01 e02 f1 f2 hxl;generalize (X : Int) + dx = px at *;generalize (Y : Int) + dy = py at *
         by_cases a1 : px < 0
         · have HE := Lib.hid (by rw [hee]; unfold gIn; rw [if_pos (.inl a1)] : ee = -1)
           have u1 : decide (0 ≤ px) = false := by simp; omega
           clear hee a1;have hAB : Below wr.heap.size wr ((wr.drewN (nq + mq)).alloc (.cells #[.int .i64 (-1)] 3)) := below_alloc (below_drewN_ (Below.refl _ _) _) _;have HNA := Lib.hid (HN.out.alters (S := fun _ => False) (Alters.of_below hAB) (fun _ h => h.elim))
           go_wp2_with (at_builtin; go_loud (refine wpList_push rfl (.tmp 91) (.tmp 93) rfl w4.heap.size _ L rfl HNA.out (by have := HLN.out; omega) (Nat.le_trans hbi.size hAB.size) ⟨wr.heap.size, 0, none⟩ (-1) rfl (cell_new_at _ _ _ _ _ _ (by simp) rfl) ?_; intro g6 cap6 w6 hown6 hg6 hat6))
           have hb6 := push_below hbi hAB hbi.size HN.out hg6;clear hat6;rw [HLL.out] at hown6 ⊢
           go_roundw
           case rel => exact ⟨x + 1, by have := HXL.out; omega, by simp, by rw [HS.out, HE.out]; exact hown6, hb6⟩
           case measure => simp [intOf]; have := HXL.out; omega
         by_cases a2 : (W : Int) ≤ px
         · have HE := Lib.hid (by rw [hee]; unfold gIn; rw [if_pos (.inr (.inl a2))] : ee = -1)
           have u1 : decide (0 ≤ px) = true := by simp; omega
           have u2 : decide (px < (W : Int)) = false := by simp; omega
           clear hee a1 a2;have hAB : Below wr.heap.size wr ((wr.drewN (nq + mq)).alloc (.cells #[.int .i64 (-1)] 3)) := below_alloc (below_drewN_ (Below.refl _ _) _) _;have HNA := Lib.hid (HN.out.alters (S := fun _ => False) (Alters.of_below hAB) (fun _ h => h.elim))
           go_wp2_with (at_builtin; go_loud (refine wpList_push rfl (.tmp 91) (.tmp 93) rfl w4.heap.size _ L rfl HNA.out (by have := HLN.out; omega) (Nat.le_trans hbi.size hAB.size) ⟨wr.heap.size, 0, none⟩ (-1) rfl (cell_new_at _ _ _ _ _ _ (by simp) rfl) ?_; intro g6 cap6 w6 hown6 hg6 hat6))
           have hb6 := push_below hbi hAB hbi.size HN.out hg6;clear hat6;rw [HLL.out] at hown6 ⊢
           go_roundw
           case rel => exact ⟨x + 1, by have := HXL.out; omega, by simp, by rw [HS.out, HE.out]; exact hown6, hb6⟩
           case measure => simp [intOf]; have := HXL.out; omega
         by_cases a3 : py < 0
         · have HE := Lib.hid (by rw [hee]; unfold gIn; rw [if_pos (.inr (.inr (.inl a3)))] : ee = -1)
           have u1 : decide (0 ≤ px) = true := by simp; omega
           have u2 : decide (px < (W : Int)) = true := by simp; omega
           have u3 : decide (0 ≤ py) = false := by simp; omega
           clear hee a1 a2 a3;have hAB : Below wr.heap.size wr ((wr.drewN (nq + mq)).alloc (.cells #[.int .i64 (-1)] 3)) := below_alloc (below_drewN_ (Below.refl _ _) _) _;have HNA := Lib.hid (HN.out.alters (S := fun _ => False) (Alters.of_below hAB) (fun _ h => h.elim))
           go_wp2_with (at_builtin; go_loud (refine wpList_push rfl (.tmp 91) (.tmp 93) rfl w4.heap.size _ L rfl HNA.out (by have := HLN.out; omega) (Nat.le_trans hbi.size hAB.size) ⟨wr.heap.size, 0, none⟩ (-1) rfl (cell_new_at _ _ _ _ _ _ (by simp) rfl) ?_; intro g6 cap6 w6 hown6 hg6 hat6))
           have hb6 := push_below hbi hAB hbi.size HN.out hg6;clear hat6;rw [HLL.out] at hown6 ⊢
           go_roundw
           case rel => exact ⟨x + 1, by have := HXL.out; omega, by simp, by rw [HS.out, HE.out]; exact hown6, hb6⟩
           case measure => simp [intOf]; have := HXL.out; omega
         by_cases a4 : (H : Int) ≤ py
         · have HE := Lib.hid (by rw [hee]; unfold gIn; rw [if_pos (.inr (.inr (.inr a4)))] : ee = -1)
           have u1 : decide (0 ≤ px) = true := by simp; omega
           have u2 : decide (px < (W : Int)) = true := by simp; omega
           have u3 : decide (0 ≤ py) = true := by simp; omega
           have u4 : decide (py < (H : Int)) = false := by simp; omega
           clear hee a1 a2 a3 a4;have hAB : Below wr.heap.size wr ((wr.drewN (nq + mq)).alloc (.cells #[.int .i64 (-1)] 3)) := below_alloc (below_drewN_ (Below.refl _ _) _) _;have HNA := Lib.hid (HN.out.alters (S := fun _ => False) (Alters.of_below hAB) (fun _ h => h.elim))
           go_wp2_with (at_builtin; go_loud (refine wpList_push rfl (.tmp 91) (.tmp 93) rfl w4.heap.size _ L rfl HNA.out (by have := HLN.out; omega) (Nat.le_trans hbi.size hAB.size) ⟨wr.heap.size, 0, none⟩ (-1) rfl (cell_new_at _ _ _ _ _ _ (by simp) rfl) ?_; intro g6 cap6 w6 hown6 hg6 hat6))
           have hb6 := push_below hbi hAB hbi.size HN.out hg6;clear hat6;rw [HLL.out] at hown6 ⊢
           go_roundw
           case rel => exact ⟨x + 1, by have := HXL.out; omega, by simp, by rw [HS.out, HE.out]; exact hown6, hb6⟩
           case measure => simp [intOf]; have := HXL.out; omega
         have HE := Lib.hid (by rw [hee]; unfold gIn; rw [if_neg (by omega)] : ee = py * (W : Int) + px)
         have u1 : decide (0 ≤ px) = true := by simp; omega
         have u2 : decide (px < (W : Int)) = true := by simp; omega
         have u3 : decide (0 ≤ py) = true := by simp; omega
         have u4 : decide (py < (H : Int)) = true := by simp; omega
         have m0 : 0 ≤ py * (W : Int) := Int.mul_nonneg (by omega) (by omega);have m1 : py * (W : Int) ≤ 4 * 3 := Int.mul_le_mul (by omega) (by omega) (by omega) (by omega);have v1 : IntKind.i64.wrap (py * (W : Int)) = py * (W : Int) := IntWalk.i64_in _ (by omega);have v2 : IntKind.i64.wrap (py * (W : Int) + px) = py * (W : Int) + px := IntWalk.i64_in _ (by omega);clear hee a1 a2 a3 a4;have hAB : Below wr.heap.size wr ((wr.drewN (nq + mq)).alloc (.cells #[.int .i64 (py * (W : Int) + px)] 3)) := below_alloc (below_drewN_ (Below.refl _ _) _) _;have HNA := Lib.hid (HN.out.alters (S := fun _ => False) (Alters.of_below hAB) (fun _ h => h.elim))
         go_wp2_with (at_builtin; go_loud (refine wpList_push rfl (.tmp 91) (.tmp 93) rfl w4.heap.size _ L rfl HNA.out (by have := HLN.out; omega) (Nat.le_trans hbi.size hAB.size) ⟨wr.heap.size, 0, none⟩ (py * (W : Int) + px) rfl (cell_new_at _ _ _ _ _ _ (by simp) rfl) ?_; intro g6 cap6 w6 hown6 hg6 hat6))
         have hb6 := push_below hbi hAB hbi.size HN.out hg6;clear hat6;rw [HLL.out] at hown6 ⊢
         go_roundw
         case rel => exact ⟨x + 1, by have := HXL.out; omega, by simp, by rw [HS.out, HE.out]; exact hown6, hb6⟩
         case measure => simp [intOf]; have := HXL.out; omega
       · obtain rfl : x = n := by omega
         have tx : decide ((x : Int) < (x : Int)) = false := by simp
         have hrw : (List.range x).map (gEnt W H d) = gRow W H d := by rw [gRow, ← HN0.out]
         rw [hrw] at ho
         have hrl : (gRow W H d).length = x := by simp [gRow, HN0.out]
         obtain ⟨o6, cp6, rfl, _⟩ := OwnInts.places ho;rw [hrl] at ho ⊢;have hbB := hb.below hbi;have hbwx : Below w3.heap.size w3 wr := hbw.trans (hbi.mono hbw.size)
         have hGot : ∀ k, some k = ot.ownBlock → ¬ some k = (Value.slice o6 x cp6).ownBlock := fun k e e2 => by
           have h1 := (hb.own_ot e).2;have h2 := (World.ownsRow.lt ho k e2.symm).1
           omega
         have hown0 : OwnInts w3.heap.size wr (.slice o6 x cp6) (gRow W H d) := OwnInts.mono ho hbw.size
         have hlenN : ((List.range d).map (gRow W H)).length = d := by simp
         have HLN := Lib.hid hlenN
         have HRO := Lib.hid (by have := (hbB.below ((Below.refl _ wr).alloc (Nat.le_refl _) (.cells #[.slice o6 x cp6] 32))).rows.outer; rwa [hlenN] at this : (wr.alloc (.cells #[.slice o6 x cp6] 32)).ownsRow w3.heap.size 32 1 on d vs)
         have HOW := Lib.hid hown0;have HBX := Lib.hid hbB;obtain ⟨_, hcx1, _, _, _⟩ := hbB.cell;obtain ⟨j0, hj, hy0, hy1, hy2⟩ := info_parts info_row;have hwr := hbi.size;clear hlenN hown0 hb hrl hbi ho hrw
         go_upto_region 20 with (at_builtin; go_loud (refine wpList_append_own_at _ rfl (.tmp 96) (.tmp 98) 31 rfl w3.heap.size 32 j0 (.slice none 0 0) 1 24 Tryz.underlying31 hj hy0 hy1 hy2 rfl (by decide) on d vs rfl HRO.out ⟨wr.heap.size, 0, none⟩ 1 1 [.slice o6 x cp6] rfl rfl (cell_one_new _ _ _) (by simp [Value.oneCell']) (by unfold maxLen; omega) (by omega) (by have := hbwx.size; simp; omega) ?_; intro v6 w6 hown6 hgrow6 _ hat6; obtain ⟨g6, cap6, rfl⟩ := ownsRow_succ hown6; have hg6 := HBX.out.grown_on hgrow6; have hc6 : w6.cell? ⟨w3.heap.size, 1, none⟩ = some on := by { unfold World.cell?; rw [hg6]; rfl }; have hf6 : w6.frozen? ⟨w3.heap.size, 1, none⟩ = false := by { unfold World.frozen?; rw [hg6]; simp }; clear hg6))
         obtain ⟨hb7, hal7⟩ := HBX.out.next HOW.out hGot (by rw [HLN.out]; exact hown6) hgrow6
         have hbw7 : Below w3.heap.size w3 _ := hbwx.trans (hal7.below hbwx.size (fun k hk => by
           rcases hk with rfl | hk
           · omega
           · exact (HBX.out.own_on hk).1))
         have hmr : (List.range (d + 1)).map (gRow W H) = (List.range d).map (gRow W H) ++ [gRow W H d] := by simp [List.range_succ]
         rw [← hmr] at hb7;obtain ⟨_, _, hcx2, _, _⟩ := hb7.cell;have hlenT : (gTurn d).length = d := gTurn_len d;obtain ⟨i0, hi, hz0, hz1, hz2⟩ := info_parts info_int
         have HTO := Lib.hid (by have := (hb7.below ((Below.refl _ _).alloc (Nat.le_refl _) (.cells #[.int .i64 (((d + 4) % 8 : Nat) : Int)] 3))).turn; unfold OwnInts at this; rwa [hlenT] at this : (World.alloc _ (.cells #[.int .i64 (((d + 4) % 8 : Nat) : Int)] 3)).ownsRow w3.heap.size 3 1 ot d ((gTurn d).map (Value.int .i64)))
         have HB7 := Lib.hid hb7;clear hmr hal7 hown6 hgrow6 hat6 hc6 hf6 hb7 hlenT HOW HBX HRO hGot hcx1 hbB;generalize w6.setCell _ _ = w7 at *;have q1 : IntKind.i64.wrap ((d : Int) + 4) = (d : Int) + 4 := IntWalk.i64_in _ (by omega);have q2 : ((d : Int) + 4).tmod 8 = (((d + 4) % 8 : Nat) : Int) := rfl;have q4 : (d + 4) % 8 < 8 := Nat.mod_lt _ (by omega);have HTS := Lib.hid (gTurn_succ d);generalize hq : (d + 4) % 8 = q at *;have q3 : IntKind.i64.wrap (q : Int) = (q : Int) := IntWalk.i64_in _ (by omega)
         go_wp2_with (at_builtin; go_loud (refine wpList_append_own_at _ rfl (.tmp 102) (.tmp 106) 32 rfl w3.heap.size 3 i0 (.int .i64 0) 1 8 Tryz.underlying32 hi hz0 hz1 hz2 rfl (by decide) ot d _ rfl HTO.out ⟨w7.heap.size, 0, none⟩ 1 1 [.int .i64 (q : Int)] rfl rfl (cell_one_new _ _ _) (by simp [Value.oneCell']) (by unfold maxLen; omega) (by omega) (by have := hbw7.size; simp; omega) ?_; intro v8 w8 hown8 hgrow8 _ hat8; obtain ⟨g8, cap8, rfl⟩ := ownsRow_succ hown8; have hg8 := HB7.out.grown_ot hgrow8; have hc8 : w8.cell? ⟨w3.heap.size, 2, none⟩ = some ot := by { unfold World.cell?; rw [hg8]; rfl }; have hf8 : w8.frozen? ⟨w3.heap.size, 2, none⟩ = false := by { unfold World.frozen?; rw [hg8]; simp }; clear hg8))
         have hown8' : OwnInts w3.heap.size w8 (.slice (some ⟨g8, 0, none⟩) (d + 1) cap8) (gTurn (d + 1)) := by
           unfold OwnInts;rw [gTurn_len, HTS.out, List.map_append]
           simpa using hown8
         obtain ⟨hb8, hal8⟩ := HB7.out.turns hown8' hgrow8 hat8
         have hbw8 : Below w3.heap.size w3 _ := hbw7.trans (hal8.below hbw7.size (fun k hk => by
           rcases hk with rfl | hk
           · omega
           · exact (HB7.out.own_ot hk).1))
         clear hown8 hown8' hgrow8 hat8 hal8
         go_roundw
         case rel => exact ⟨d + 1, _, _, _, by omega, by simp, hb8, hbw8⟩
         case measure => simp [intOf]; omega
   · obtain rfl : d = 8 := by omega
     obtain ⟨an', cn', at', ct', rfl, rfl, hRw, hTu⟩ := hb.held;obtain ⟨q0, q1, q2, _, _⟩ := hb.cell;have hz := (hbw.block w.heap.size (by omega)).trans k4
     have z0 : w4.cell? ⟨w.heap.size, 0, none⟩ = some (.int .i64 0) := by unfold World.cell?; rw [hz]; rfl
     have z1 : w4.cell? ⟨w.heap.size, 1, none⟩ = some (.slice none 0 0) := by unfold World.cell?; rw [hz]; rfl
     have z2 : w4.cell? ⟨w.heap.size, 2, none⟩ = some (.slice none 0 0) := by unfold World.cell?; rw [hz]; rfl
     have f0 : w4.frozen? ⟨w.heap.size, 0, none⟩ = false := by unfold World.frozen?; rw [hz]; simp
     have f1 : w4.frozen? ⟨w.heap.size, 1, none⟩ = false := by unfold World.frozen?; rw [hz]; simp
     have f2 : w4.frozen? ⟨w.heap.size, 2, none⟩ = false := by unfold World.frozen?; rw [hz]; simp
     have e1 : ((List.range 8).map (gRow W H)).length = 8 := by simp
     have e2 : (gTurn 8).length = 8 := gTurn_len 8;rw [e1] at q1;rw [e2] at q2;rw [e1, e2] at hb
     have hal : Alters (fun k => k = w.heap.size) w4 (((w4.setCell ⟨w.heap.size, 0, none⟩ (.int .i64 n)).setCell ⟨w.heap.size, 1, none⟩ (.slice an' 8 cn')).setCell ⟨w.heap.size, 2, none⟩ (.slice at' 8 ct')) :=
       ⟨rfl, rfl, rfl, by simp [World.setCell], fun k _ hk => ((Below.heap_setCell _ _ _ _ hk).trans (Below.heap_setCell _ _ _ _ hk)).trans (Below.heap_setCell _ _ _ _ hk)⟩
     have hbN := hb.alters hal (by omega) (fun k hk e => by have := hb.own_on e; omega) (fun k hk e => by have := hb.own_ot e; omega) (fun k hk v hv e => by have := hb.own_vs hv e; omega)
     have hbw2 : Below w.heap.size w w4 := hb0.trans (hbw.mono (by omega));have hbwN := hbw2.trans (hal.below hbw2.size (fun k hk => by omega));have HBN := Lib.hid hbN;clear hz hb hbN hal hRw hTu e1 e2;go_wp2
     refine bodyPost_ret_by (v := .tuple #[.agg #[.int .i64 n, .slice an' 8 cn', .slice at' 8 ct'], .int .i64 0]) (by rw [results_cell_tmp rfl]; go_simp) rfl ?_
     exact ⟨_, _, by rw [← HN0.out], ⟨⟨_, HBN.out.rows.low (by omega)⟩, OwnInts.mono HBN.out.turn (by omega)⟩, hbwN⟩
end Go.Proofs.YtbmcngoeinginaaGreatDoor
namespace Go.Proofs.YtbmcngoeinginaaGreatDoor
open Go Go.RowKit Go.Shelf
def okB (B : Brd) : Bool :=
 decide (1 ≤ B.cells) && decide (B.cells ≤ 64) && decide (B.next.length ≤ 8) && B.next.all (fun r => decide ((r.length : Int) = B.cells) && r.all (fun x => decide (-1 ≤ x) && decide (x < B.cells))) &&
   decide (B.turn.length = B.next.length) && B.turn.all (fun x => decide (0 ≤ x) && decide (x < (B.next.length : Int)))
theorem ok_of_okB {B : Brd} (h : okB B = true) : B.Ok := by
 unfold okB at h
 simp only [Bool.and_eq_true, decide_eq_true_eq, List.all_eq_true] at h
 obtain ⟨⟨⟨⟨⟨h1, h2⟩, h3⟩, h4⟩, h5⟩, h6⟩ := h
 have hr : ∀ d, d < B.next.length → B.next[d]?.getD [] ∈ B.next := fun d hd => by
   rw [List.getElem?_eq_getElem hd, Option.getD_some]; exact List.getElem_mem hd
 refine ⟨h1, h2, h3, fun d hd => (h4 _ (hr d hd)).1, fun d c hd hc => ?_, h5, fun d hd => ?_⟩
 · have h7 := h4 _ (hr d hd)
   have hcl : c < (B.next[d]?.getD []).length := by have := h7.1; omega
   rw [List.getElem?_eq_getElem hcl, Option.getD_some];exact h7.2 _ (List.getElem_mem hcl)
 · rw [List.getElem?_eq_getElem hd, Option.getD_some]
   exact h6 _ (List.getElem_mem hd)
theorem okB_grid (W H : Nat) (h1 : 1 ≤ W) (h2 : W ≤ 3) (h3 : 1 ≤ H) (h4 : H ≤ 3) : okB (gridB W H) = true := by
 have hW : W = 1 ∨ W = 2 ∨ W = 3 := by omega
 have hH : H = 1 ∨ H = 2 ∨ H = 3 := by omega
 rcases hW with rfl | rfl | rfl <;> rcases hH with rfl | rfl | rfl <;> decide +kernel
def madeB (x y z : Nat) : Brd := if 200 < z then withoutS (gridB (1 + x % 3) (1 + y % 3)) ((z : Int) % ((1 + x % 3) * (1 + y % 3) : Nat)) else gridB (1 + x % 3) (1 + y % 3)
theorem madeB_cells (x y z : Nat) : (madeB x y z).cells = ((1 + x % 3) * (1 + y % 3) : Nat) := by unfold madeB; split <;> rfl
theorem cells_in (x y : Nat) : 1 ≤ (1 + x % 3) * (1 + y % 3) ∧ (1 + x % 3) * (1 + y % 3) ≤ 9 := by
 have h1 := Nat.mod_lt x (show 0 < 3 by omega)
 have h2 := Nat.mod_lt y (show 0 < 3 by omega)
 exact ⟨Nat.mul_pos (by omega) (by omega), Nat.mul_le_mul (show 1 + x % 3 ≤ 3 by omega) (show 1 + y % 3 ≤ 3 by omega)⟩
set_option maxRecDepth 100000 in
set_option maxHeartbeats 1000000 in
theorem madeB_any (x y z : Nat) (_ : x ≤ 255) (_ : y ≤ 255) (hz : z ≤ 255) (w : World) :
   Calls Tryz.prog 31 #[.int .u8 x, .int .u8 y, .int .u8 z] w fun e W' => ∃ on ot, e = .returned (.agg #[.int .i64 (madeB x y z).cells, on, ot]) ∧ OwnB w.heap.size W' on ot (madeB x y z) ∧ Below w.heap.size w W' := by
 have hX := Nat.mod_lt x (show 0 < 3 by omega)
 have hY := Nat.mod_lt y (show 0 < 3 by omega)
 have a1 : (x : Int).tmod 3 = ((x % 3 : Nat) : Int) := rfl
 have a2 : (y : Int).tmod 3 = ((y % 3 : Nat) : Int) := rfl
 have HB := Lib.hid (show madeB x y z = if 200 < z then withoutS (gridB (1 + x % 3) (1 + y % 3)) ((z : Int) % ((1 + x % 3) * (1 + y % 3) : Nat)) else gridB (1 + x % 3) (1 + y % 3) from rfl)
 have HC := Lib.hid (madeB_cells x y z)
 have HI := cells_in x y
 generalize madeB x y z = B at *
 generalize x % 3 = X at *
 generalize y % 3 = Y at *
 have b1 : IntKind.u8.wrap (X : Int) = (X : Int) := by unfold IntKind.wrap; simp [IntKind.bits, IntKind.signed]; omega
 have b2 : IntKind.u8.wrap (Y : Int) = (Y : Int) := by unfold IntKind.wrap; simp [IntKind.bits, IntKind.signed]; omega
 have b3 : IntKind.i64.wrap (X : Int) = (X : Int) := IntWalk.i64_in _ (by omega)
 have b4 : IntKind.i64.wrap (Y : Int) = (Y : Int) := IntWalk.i64_in _ (by omega)
 have b5 : IntKind.i64.wrap (1 + (X : Int)) = ((1 + X : Nat) : Int) := IntWalk.i64_in _ (by omega)
 have b6 : IntKind.i64.wrap (1 + (Y : Int)) = ((1 + Y : Nat) : Int) := IntWalk.i64_in _ (by omega)
 have HG := Lib.hid (fun W => ggrid_any (1 + X) (1 + Y) (by omega) (by omega) (by omega) (by omega) W)
 have HO := Lib.hid (ok_of_okB (okB_grid (1 + X) (1 + Y) (by omega) (by omega) (by omega) (by omega)))
 have HGC := Lib.hid (show (gridB (1 + X) (1 + Y)).cells = (((1 + X) * (1 + Y) : Nat) : Int) from rfl)
 have HGT := Lib.hid (show (gridB (1 + X) (1 + Y)).turn.length = 8 from gTurn_len 8)
 generalize gridB (1 + X) (1 + Y) = G at *
 generalize (1 + X) * (1 + Y) = n at *
 go_enter Tryz.func31, Tryz.ntmps31
 go_upto_region 2 with (go_at_call 56; refine (HG.out _).mono ?_; rintro e w1 ⟨on, ot, rfl, hG, hb⟩; obtain ⟨an, cn, at_, ct, rfl, rfl, hH⟩ := hG.held)
 have hs1 := hb.size
 rw [World.size_alloc] at hs1
 have hz : w1.heap[w.heap.size]? = some (.cells #[.int .i64 0, .slice none 0 0, .slice none 0 0] 34 (0, 0)) := (hb.block _ (by simp)).trans (World.alloc_heap_new _ _)
 have hbw : Below w.heap.size w w1 := (below_alloc (Below.refl _ _) _).trans (hb.mono (by simp))
 rw [World.size_alloc] at hG
 by_cases hcut : 200 < z
 · have t1 : decide (200 < (z : Int)) = true := by simp; omega
   rw [if_pos hcut] at HB;have m0 : 0 ≤ (z : Int) % (n : Int) := Int.emod_nonneg _ (by omega);have m1 : (z : Int) % (n : Int) < (n : Int) := Int.emod_lt_of_pos _ (by omega);have m2 : (z : Int).tmod (n : Int) = (z : Int) % (n : Int) := Int.tmod_eq_emod_of_nonneg (by omega);have m3 : IntKind.i64.wrap ((z : Int) % (n : Int)) = (z : Int) % (n : Int) := IntWalk.i64_in _ (by omega);have m4 : IntKind.i64.wrap (z : Int) = (z : Int) := IntWalk.i64_in _ (by omega)
   have m5 : ((n : Int) == 0) = false := by simp; omega
   have m6 : ¬ ((n : Int) = 0) := by omega
   have m7 : ¬ (n = 0) := by omega
   have HW := Lib.hid (fun W hW => refWo_any G HO.out (by rw [HGT.out]; omega) an at_ cn ct ((z : Int) % (n : Int)) m0 (by rw [HGC.out]; exact m1) W hW)
   rw [HGC.out] at HW;unfold Brd.val at HW;rw [HGC.out] at HW;have c0 := cell_new_at w1 #[.int .i64 n, .slice an G.next.length cn, .slice at_ G.turn.length ct] 34 w1.heap.size 0 _ rfl rfl;have c1 := cell_new_at w1 #[.int .i64 n, .slice an G.next.length cn, .slice at_ G.turn.length ct] 34 w1.heap.size 1 _ rfl rfl;have c2 := cell_new_at w1 #[.int .i64 n, .slice an G.next.length cn, .slice at_ G.turn.length ct] 34 w1.heap.size 2 _ rfl rfl;have hl := hs1;have kA : (w1.alloc (.cells #[.int .i64 n, .slice an G.next.length cn, .slice at_ G.turn.length ct] 34)).heap[w1.heap.size]? = some (.cells #[.int .i64 n, .slice an G.next.length cn, .slice at_ G.turn.length ct] 34 (0, 0)) := World.alloc_heap_new _ _;have hbA := below_alloc (Below.refl _ w1) (.cells #[.int .i64 n, .slice an G.next.length cn, .slice at_ G.turn.length ct] 34);have hHA := (hH.up (Nat.le_refl _) hbA).mono hbA.size
   have hsA : (w1.alloc (.cells #[.int .i64 n, .slice an G.next.length cn, .slice at_ G.turn.length ct] 34)).heap.size = w1.heap.size + 1 := by simp
   generalize w1.alloc (.cells #[.int .i64 n, .slice an G.next.length cn, .slice at_ G.turn.length ct] 34) = wA at *
   go_wp2_with fail
   refine wp_region_quiet_then 6 (fun W => ∃ q, W = wA.drewN q) ⟨1, rfl⟩ (by kernel_rfl) (by kernel_rfl) ?_;simp only [List.take_succ_cons, List.take_zero]
   iterate 6
     refine wpQuiet_val (v := ?_) (by rfl) ?_ ?_;rotate_left
     · ((intro W hW; (try cases hW); go_simp); try with_reducible rfl)
     (try simp only [pS])
   refine wpQuiet_nil ?_;intro _ hw';obtain ⟨nq, hw''⟩ := hw';subst hw'';have hT : True := trivial;refine wpAnyH_ready (rs := [6]) (by kernel_rfl) (by simp) ?_;refine AC (fun K hK => ?_) AllReadyH.nil;refine step_call_g rfl 57 _ _ #[.agg #[.int .i64 n, .slice an G.next.length cn, .slice at_ G.turn.length ct], .int .i64 ((z : Int) % (n : Int))] rfl rfl (enters_of Tryz.func57 (by kernel_rfl) rfl) ((HW.out (wA.drewN nq) (hHA.up (Nat.le_refl _) (below_drewN_ (Below.refl _ wA) nq))).mono ?_);rintro e w6 ⟨on2, ot2, rfl, hO, hb6⟩;have hb6' : Below wA.heap.size wA w6 := below_step (below_drewN_ (Below.refl _ wA) nq) hb6;refine ⟨_, rfl, hK.out _ _ trivial (fun _ => ?_)⟩;clear hK K;(try simp only [pS]);obtain ⟨a2, k2, a3, k3, rfl, rfl, hH2⟩ := hO.held
   have k6 : w6.heap[w1.heap.size]? = some (.cells #[.int .i64 n, .slice an G.next.length cn, .slice at_ G.turn.length ct] 34 (0, 0)) := (hb6'.block _ (by omega)).trans kA
   have y0 : w6.cell? ⟨w1.heap.size, 0, none⟩ = some (.int .i64 n) := by unfold World.cell?; rw [k6]; rfl
   have y1 : w6.cell? ⟨w1.heap.size, 1, none⟩ = some (.slice an G.next.length cn) := by unfold World.cell?; rw [k6]; rfl
   have y2 : w6.cell? ⟨w1.heap.size, 2, none⟩ = some (.slice at_ G.turn.length ct) := by unfold World.cell?; rw [k6]; rfl
   have g0 : w6.frozen? ⟨w1.heap.size, 0, none⟩ = false := by unfold World.frozen?; rw [k6]; simp
   have g1 : w6.frozen? ⟨w1.heap.size, 1, none⟩ = false := by unfold World.frozen?; rw [k6]; simp
   have g2 : w6.frozen? ⟨w1.heap.size, 2, none⟩ = false := by unfold World.frozen?; rw [k6]; simp
   refine TK 7 ?_;(try simp only [pS]);refine TK 8 ?_;(try simp only [pS]);refine TK 9 ?_;(try simp only [pS]);refine wpAnyH_ready (rs := [10]) (by kernel_rfl) (by simp) ?_;refine AC (fun K hK => ?_) AllReadyH.nil;go_simp;refine hK.out _ _ trivial (fun _ => ?_);clear hK K;refine wpAnyH_done (by kernel_rfl) ?_ _;generalize withoutS G ((z : Int) % (n : Int)) = G2 at *
   have hal6 : Alters (fun k => k = w1.heap.size) w6 (((w6.setCell ⟨w1.heap.size, 0, none⟩ (.int .i64 n)).setCell ⟨w1.heap.size, 1, none⟩ (.slice a2 G2.next.length k2)).setCell ⟨w1.heap.size, 2, none⟩ (.slice a3 G2.turn.length k3)) :=
     ⟨rfl, rfl, rfl, by simp [World.setCell], fun k _ hk => ((Below.heap_setCell _ _ _ _ hk).trans (Below.heap_setCell _ _ _ _ hk)).trans (Below.heap_setCell _ _ _ _ hk)⟩
   have kX : (((w6.setCell ⟨w1.heap.size, 0, none⟩ (.int .i64 n)).setCell ⟨w1.heap.size, 1, none⟩ (.slice a2 G2.next.length k2)).setCell ⟨w1.heap.size, 2, none⟩ (.slice a3 G2.turn.length k3)).heap[w1.heap.size]? = some (.cells #[.int .i64 n, .slice a2 G2.next.length k2, .slice a3 G2.turn.length k3] 34 (0, 0)) := by
     simp [World.setCell, Array.getElem?_modify, k6]
   have hdr : (wA.drewN nq).heap.size = wA.heap.size := rfl;have hs6 := hb6'.size;rw [hdr] at hO;have hGX := (hO.alters hal6 (fun k hk => by omega)).low (m := w.heap.size + 1) (by omega);have qX := (hal6.block w.heap.size (by omega) (by omega)).trans ((hb6'.block w.heap.size (by omega)).trans ((hbA.block w.heap.size (by omega)).trans hz))
   have hbX : Below w.heap.size w (((w6.setCell ⟨w1.heap.size, 0, none⟩ (.int .i64 n)).setCell ⟨w1.heap.size, 1, none⟩ (.slice a2 G2.next.length k2)).setCell ⟨w1.heap.size, 2, none⟩ (.slice a3 G2.turn.length k3)) :=
     ((hbw.trans (hbA.mono hbw.size)).trans (hb6'.mono (by omega))).trans (hal6.below (by omega) (fun k hk => by omega))
   have lX := hal6.size;clear y0 y1 y2 g0 g1 g2 c0 c1 c2 hO hb6 hb6' hal6 k6 kA hHA hH2;generalize (((w6.setCell ⟨w1.heap.size, 0, none⟩ (.int .i64 n)).setCell ⟨w1.heap.size, 1, none⟩ (.slice a2 G2.next.length k2)).setCell ⟨w1.heap.size, 2, none⟩ (.slice a3 G2.turn.length k3)) = wX at *
   have c0 : wX.cell? ⟨w1.heap.size, 0, none⟩ = some (.int .i64 n) := by unfold World.cell?; rw [kX]; rfl
   have c1 : wX.cell? ⟨w1.heap.size, 1, none⟩ = some (.slice a2 G2.next.length k2) := by unfold World.cell?; rw [kX]; rfl
   have c2 : wX.cell? ⟨w1.heap.size, 2, none⟩ = some (.slice a3 G2.turn.length k3) := by unfold World.cell?; rw [kX]; rfl
   have q0 := qX;have hGA := hGX;have hbAA := hbX;clear hbA;have hbA := hbAA;clear hdr hs6 lX hsA hbAA hbX hGX qX;clear wA;generalize wX = wA at *
   have z0 : wA.cell? ⟨w.heap.size, 0, none⟩ = some (.int .i64 0) := by unfold World.cell?; rw [q0]; rfl
   have z1 : wA.cell? ⟨w.heap.size, 1, none⟩ = some (.slice none 0 0) := by unfold World.cell?; rw [q0]; rfl
   have z2 : wA.cell? ⟨w.heap.size, 2, none⟩ = some (.slice none 0 0) := by unfold World.cell?; rw [q0]; rfl
   have f0 : wA.frozen? ⟨w.heap.size, 0, none⟩ = false := by unfold World.frozen?; rw [q0]; simp
   have f1 : wA.frozen? ⟨w.heap.size, 1, none⟩ = false := by unfold World.frozen?; rw [q0]; simp
   have f2 : wA.frozen? ⟨w.heap.size, 2, none⟩ = false := by unfold World.frozen?; rw [q0]; simp
   have hal : Alters (fun k => k = w.heap.size) wA (((wA.setCell ⟨w.heap.size, 0, none⟩ (.int .i64 n)).setCell ⟨w.heap.size, 1, none⟩ (.slice a2 G2.next.length k2)).setCell ⟨w.heap.size, 2, none⟩ (.slice a3 G2.turn.length k3)) :=
     ⟨rfl, rfl, rfl, by simp [World.setCell], fun k _ hk => ((Below.heap_setCell _ _ _ _ hk).trans (Below.heap_setCell _ _ _ _ hk)).trans (Below.heap_setCell _ _ _ _ hk)⟩
   have HG2 := Lib.hid ((hGA.alters hal (fun k hk => by omega)).low (m := w.heap.size) (by omega));have HBN := Lib.hid (hbA.trans (hal.below hbA.size (fun k hk => by omega)));clear q0 hal hGA hbA;go_wp2
   refine bodyPost_ret_by (v := .agg #[.int .i64 n, .slice a2 G2.next.length k2, .slice a3 G2.turn.length k3]) (by rw [results_cell1 rfl]; go_simp) rfl ?_
   exact ⟨_, _, by rw [HC.out], by rw [HB.out]; exact HG2.out, HBN.out⟩
 · have t1 : decide (200 < (z : Int)) = false := by simp; omega
   rw [if_neg hcut] at HB;have q0 : (w1.alloc (.cells #[.int .i64 n, .slice an G.next.length cn, .slice at_ G.turn.length ct] 34)).heap[w.heap.size]? = some (.cells #[.int .i64 0, .slice none 0 0, .slice none 0 0] 34 (0, 0)) := (Below.heap_alloc _ _ _ (by omega)).trans hz;have hGA := hG.below (below_alloc (Below.refl _ w1) (.cells #[.int .i64 n, .slice an G.next.length cn, .slice at_ G.turn.length ct] 34));have hbA := below_alloc hbw (.cells #[.int .i64 n, .slice an G.next.length cn, .slice at_ G.turn.length ct] 34);have c0 := cell_new_at w1 #[.int .i64 n, .slice an G.next.length cn, .slice at_ G.turn.length ct] 34 w1.heap.size 0 _ rfl rfl;have c1 := cell_new_at w1 #[.int .i64 n, .slice an G.next.length cn, .slice at_ G.turn.length ct] 34 w1.heap.size 1 _ rfl rfl
   have c2 := cell_new_at w1 #[.int .i64 n, .slice an G.next.length cn, .slice at_ G.turn.length ct] 34 w1.heap.size 2 _ rfl rfl;have hl := hs1;generalize w1.alloc (.cells #[.int .i64 n, .slice an G.next.length cn, .slice at_ G.turn.length ct] 34) = wA at *
   have z0 : wA.cell? ⟨w.heap.size, 0, none⟩ = some (.int .i64 0) := by unfold World.cell?; rw [q0]; rfl
   have z1 : wA.cell? ⟨w.heap.size, 1, none⟩ = some (.slice none 0 0) := by unfold World.cell?; rw [q0]; rfl
   have z2 : wA.cell? ⟨w.heap.size, 2, none⟩ = some (.slice none 0 0) := by unfold World.cell?; rw [q0]; rfl
   have f0 : wA.frozen? ⟨w.heap.size, 0, none⟩ = false := by unfold World.frozen?; rw [q0]; simp
   have f1 : wA.frozen? ⟨w.heap.size, 1, none⟩ = false := by unfold World.frozen?; rw [q0]; simp
   have f2 : wA.frozen? ⟨w.heap.size, 2, none⟩ = false := by unfold World.frozen?; rw [q0]; simp
   have hal : Alters (fun k => k = w.heap.size) wA (((wA.setCell ⟨w.heap.size, 0, none⟩ (.int .i64 n)).setCell ⟨w.heap.size, 1, none⟩ (.slice an G.next.length cn)).setCell ⟨w.heap.size, 2, none⟩ (.slice at_ G.turn.length ct)) :=
     ⟨rfl, rfl, rfl, by simp [World.setCell], fun k _ hk => ((Below.heap_setCell _ _ _ _ hk).trans (Below.heap_setCell _ _ _ _ hk)).trans (Below.heap_setCell _ _ _ _ hk)⟩
   have HG2 := Lib.hid ((hGA.alters hal (fun k hk => by omega)).low (m := w.heap.size) (by omega));have HBN := Lib.hid (hbA.trans (hal.below hbA.size (fun k hk => by omega)));clear q0 hal hGA hbA;go_wp2
   refine bodyPost_ret_by (v := .agg #[.int .i64 n, .slice an G.next.length cn, .slice at_ G.turn.length ct]) (by rw [results_cell1 rfl]; go_simp) rfl ?_
   exact ⟨_, _, by rw [HC.out], by rw [HB.out]; exact HG2.out, HBN.out⟩
end Go.Proofs.YtbmcngoeinginaaGreatDoor
