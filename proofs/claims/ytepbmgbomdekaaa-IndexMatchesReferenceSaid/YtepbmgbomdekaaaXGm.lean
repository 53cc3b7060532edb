/-
  The boxes of a game and of a position or material side by side, and steps of regions over them.
-/
import Derived.Test.YtepbmgbomdekaaaXBx
namespace Go.Proofs.Ytepbmgbomdekaaa
open Go Go.RowKit

structure GM (w : World) (g q : Nat) (T : TypeId) (x0 x1 x2 x3 x4 x5 x6 x7 x8 y0 y1 y2 y3 y4 : Value) (W : World) : Prop where
  b : Below w.heap.size w W
  hg : W.heap[g]? = some (.cells #[x0, x1, x2, x3, x4, x5, x6, x7, x8] 35 (0, 0))
  hq : W.heap[q]? = some (.cells #[y0, y1, y2, y3, y4] T (0, 0))
  g0 : W.cell? ⟨g, 0, none⟩ = some x0
  g1 : W.cell? ⟨g, 1, none⟩ = some x1
  g2 : W.cell? ⟨g, 2, none⟩ = some x2
  g3 : W.cell? ⟨g, 3, none⟩ = some x3
  g4 : W.cell? ⟨g, 4, none⟩ = some x4
  g5 : W.cell? ⟨g, 5, none⟩ = some x5
  g6 : W.cell? ⟨g, 6, none⟩ = some x6
  g7 : W.cell? ⟨g, 7, none⟩ = some x7
  g8 : W.cell? ⟨g, 8, none⟩ = some x8
  q0 : W.cell? ⟨q, 0, none⟩ = some y0
  q1 : W.cell? ⟨q, 1, none⟩ = some y1
  q2 : W.cell? ⟨q, 2, none⟩ = some y2
  q3 : W.cell? ⟨q, 3, none⟩ = some y3
  q4 : W.cell? ⟨q, 4, none⟩ = some y4
theorem GM.of {w W : World} {g q : Nat} {T : TypeId} {x0 x1 x2 x3 x4 x5 x6 x7 x8 y0 y1 y2 y3 y4 : Value} (hb : Below w.heap.size w W) (hg : W.heap[g]? = some (.cells #[x0, x1, x2, x3, x4, x5, x6, x7, x8] 35 (0, 0))) (hq : W.heap[q]? = some (.cells #[y0, y1, y2, y3, y4] T (0, 0))) :
    GM w g q T x0 x1 x2 x3 x4 x5 x6 x7 x8 y0 y1 y2 y3 y4 W :=
  ⟨hb, hg, hq, bx_cell hg 0 rfl, bx_cell hg 1 rfl, bx_cell hg 2 rfl, bx_cell hg 3 rfl, bx_cell hg 4 rfl, bx_cell hg 5 rfl, bx_cell hg 6 rfl, bx_cell hg 7 rfl, bx_cell hg 8 rfl, bx_cell hq 0 rfl, bx_cell hq 1 rfl, bx_cell hq 2 rfl, bx_cell hq 3 rfl, bx_cell hq 4 rfl⟩
theorem GM.up {w W W' : World} {g q : Nat} {T : TypeId} {x0 x1 x2 x3 x4 x5 x6 x7 x8 y0 y1 y2 y3 y4 : Value} (h : GM w g q T x0 x1 x2 x3 x4 x5 x6 x7 x8 y0 y1 y2 y3 y4 W) (hb : Below W.heap.size W W') : GM w g q T x0 x1 x2 x3 x4 x5 x6 x7 x8 y0 y1 y2 y3 y4 W' :=
  GM.of (below_step h.b hb) (hp_up h.hg hb) (hp_up h.hq hb)
theorem GM.drew {w W : World} {g q : Nat} {T : TypeId} {x0 x1 x2 x3 x4 x5 x6 x7 x8 y0 y1 y2 y3 y4 : Value} (h : GM w g q T x0 x1 x2 x3 x4 x5 x6 x7 x8 y0 y1 y2 y3 y4 W) : GM w g q T x0 x1 x2 x3 x4 x5 x6 x7 x8 y0 y1 y2 y3 y4 W.drew := h.up (Below.refl _ _).drew

theorem GM.row {w W : World} {x n B : Nat} {T : TypeId} {x0 x1 x2 x3 x4 x5 x6 x7 x8 y0 y1 y2 y3 y4 : Value} (h : GM w x (x + 1) T x0 x1 x2 x3 x4 x5 x6 x7 x8 y0 y1 y2 y3 y4 W) (cs : Array Value) (hn : n ≤ B) (hx : x + 1 < n) (hw : x = w.heap.size) : GM w x (x + 1) T x0 x1 x2 x3 x4 x5 x6 x7 x8 y0 y1 y2 y3 y4 (W.setRow B cs) :=
  GM.of (h.b.trans ((setRow_alt W B cs).below h.b.size (fun k hk => by have e : k = B := hk; omega))) ((setRow_other W B x cs (by omega)).trans h.hg) ((setRow_other W B (x + 1) cs (by omega)).trans h.hq)
theorem own_ne {n : Nat} {W : World} {v : Value} {l : List Int} (h : OwnInts n W v l) {B : Nat} {cs : Array Value} {t : TypeId} {fr : Nat × Nat} (hB : W.heap[B]? = some (.cells cs t fr)) (ht : t ≠ 3) : ¬ some B = v.ownBlock := by
  intro e
  rcases h.2 with ⟨rfl, _⟩ | ⟨g, cap, cur, rfl, _, hc, _⟩
  · simp [Value.ownBlock] at e
  · obtain rfl : B = g := by simpa [Value.ownBlock] using e
    rw [hB] at hc
    injection hc with hc
    injection hc with _ h2 _
    exact ht h2
theorem OwnInts.upx {n : Nat} {W W' : World} {v : Value} {l : List Int} (h : OwnInts n W v l) (hb : Below W.heap.size W W') : OwnInts n W' v l := h.alters (Alters.of_below (S := fun _ => False) hb) (fun _ h => h.elim)
/-- A position or material whose lists are of the call's own, from block n on. -/
structure POwn (n : Nat) (W : World) (a a0 a1 : Option Addr) (d d0 d1 : Nat) (p : PosS) : Prop where
  cells : OwnInts n W (.slice a p.cells.length d) p.cells
  h0 : OwnInts n W (.slice a0 p.h0.length d0) p.h0
  h1 : OwnInts n W (.slice a1 p.h1.length d1) p.h1
theorem POwn.pin {n : Nat} {W : World} {a a0 a1 : Option Addr} {d d0 d1 : Nat} {p : PosS} (h : POwn n W a a0 a1 d d0 d1 p) : PosIn W.heap.size W a a0 a1 p := ⟨h.cells.ints', h.h0.ints', h.h1.ints'⟩
theorem POwn.upx {n : Nat} {W W' : World} {a a0 a1 : Option Addr} {d d0 d1 : Nat} {p : PosS} (h : POwn n W a a0 a1 d d0 d1 p) (hb : Below W.heap.size W W') : POwn n W' a a0 a1 d d0 d1 p := ⟨h.cells.upx hb, h.h0.upx hb, h.h1.upx hb⟩
theorem POwn.row {n : Nat} {W : World} {a a0 a1 : Option Addr} {d d0 d1 : Nat} {p : PosS} (h : POwn n W a a0 a1 d d0 d1 p) {B : Nat} {cs old : Array Value} {t : TypeId} {fr : Nat × Nat} (hB : W.heap[B]? = some (.cells old t fr)) (ht : t ≠ 3) : POwn n (W.setRow B cs) a a0 a1 d d0 d1 p := by
  have ha := setRow_alt W B cs
  have hS : ∀ {v : Value} {l : List Int}, OwnInts n W v l → ∀ k, (fun b => b = B) k → ¬ some k = v.ownBlock := fun h k hk => by
    have e : k = B := hk
    subst e
    exact own_ne h hB ht
  exact ⟨h.cells.alters ha (hS h.cells), h.h0.alters ha (hS h.h0), h.h1.alters ha (hS h.h1)⟩
section
variable {md : Region.Mode} {ops : Array Oper} {Q : Exit → Act → World → Prop} {S : World → Prop} {fuel : Nat} {listed : Array Bool} {a : Act} {w : World}
/-- Take operation number i first, over a class that is a structure. -/
theorem TC (i : Nat) {o : Oper} {v : Value} (h : wpAnyH Try.prog md ops Q S fuel (listed.setIfInBounds i true) (a.put o.dst v) w)
    (hi : nthO ops.toList i = some o := by rfl) (hs : Region.noSelect ops = true := by kernel_rfl) (hf : Region.free md ops listed i = true := by kernel_rfl) (hr : (Region.ready md ops listed).contains i = true := by kernel_rfl)
    (hQ : ∀ c a w, Q (.panic c) (a.put o.dst v) w → Q (.panic c) a w := by exact fun _ _ _ h => h) (hw : Region.wanted o (yielded ops a.tmps) = true := by rfl)
    (hy : ∀ w, S w → (execOp a.eval o).run Try.prog w = .ok (.value v) w := by ((intro w hSw; cases hSw; go_simp); try with_reducible rfl)) (hS : S w := by assumption) : wpAnyH Try.prog md ops Q S (fuel + 1) listed a w :=
  TK i h hi hs hf hr hQ hw hy hS
/-- A load of a part of a box. -/
theorem YL {op : Oper} (hw : Region.wanted op (yielded ops a.tmps) = true) (ty : TypeId) (x : Operand) (ho : op.op = .load ty x)
    (b k : Nat) (hx : a.eval x = .pointer (some ⟨b, k, none⟩)) (L cs : List Value) (d : TypeDesc) (t : TypeId) (hS : ∀ w, S w → w.heap[b]? = some (.cells L.toArray t (0, 0))) (hcs : (L.drop k).take cs.length = cs)
    (hu : Try.prog.underlying ty = some d) (hd : d.isRow = true) (hi : (Try.prog.info? ty).map (·.size) = some cs.length) : YieldsIf Try.prog ops S op (.agg cs.toArray) a :=
  yieldsIf_load_mid hw ty x ho b k hx cs d (fun w hw j v hv => by
    refine bx_cell (hS w hw) (k + j) ?_
    rw [← hcs, List.getElem?_take] at hv
    split at hv
    · simpa using hv
    · cases hv) hu hd hi
/-- A step over a slice made in a region. -/
theorem step_mk {o : Oper} {K : Act → World → Prop} {E : Prop} (hw : Region.wanted o (yielded ops a.tmps) = true) (l c : Operand) (hop : o.op = Op.makeSlice 24 l c)
    (n : Nat) (hl : a.eval l = .int .i64 (n : Int)) (hc : a.eval c = .int .i64 (n : Int)) (hn : n ≤ 100000)
    (hK : ∀ w', OwnInts w.heap.size w' (.slice (some ⟨w.heap.size, 0, none⟩) n n) (List.replicate n 0) → Below w.heap.size w w' → K (a.put o.dst (.slice (some ⟨w.heap.size, 0, none⟩) n n)) w') :
    if Region.wanted o (yielded ops a.tmps) = true then Oper.wp Try.prog o a w K Q else E := by
  rw [if_pos hw]
  obtain ⟨i0, hi, hz0, hz1, hz2⟩ := info_parts info_mk
  obtain ⟨w', hrun, ho, hgr⟩ := run_make_full (P := Try.prog) w w.heap.size 24 3 i0 (.int .i64 0) 1 Try.underlying24 hi hz0 hz1 .i64 .i64 n (by rw [hz2]; omega) (by unfold maxLen; omega) (Nat.le_refl _)
  unfold Oper.wp
  simp [execOp, hop, hl, hc, hrun, Result.andThen]
  have hb : Below w.heap.size w w' := (Alters.of_grown hgr).below (Nat.le_refl _) (fun k hk => by cases hk)
  refine hK w' ?_ hb
  show w'.ownsRow _ _ _ _ (List.replicate n (0 : Int)).length ((List.replicate n (0 : Int)).map (Value.int .i64))
  rw [List.length_replicate, List.map_replicate]
  have e2 : (madeCells (Value.int .i64 0).cells (n * 1)).toList = List.replicate n (.int .i64 0) := by rw [Nat.mul_one]; exact toList_madeCells_one _ _
  rw [← e2]
  exact ho
/-- A step over a new box. -/
theorem step_al {t : TypeId} {o : Oper} {cs : Array Value} {K : Act → World → Prop} {E : Prop} (hw : Region.wanted o (yielded ops a.tmps) = true)
    (hr : (execOp a.eval o).run Try.prog w = .ok (.value (.pointer (some ⟨w.heap.size, 0, none⟩))) (w.alloc (.cells cs t)))
    (hK : K (a.put o.dst (.pointer (some ⟨w.heap.size, 0, none⟩))) (w.alloc (.cells cs t))) :
    if Region.wanted o (yielded ops a.tmps) = true then Oper.wp Try.prog o a w K Q else E := by
  rw [if_pos hw]
  unfold Oper.wp
  rw [hr]
  exact hK
end
end Go.Proofs.Ytepbmgbomdekaaa
