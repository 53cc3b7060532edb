/-
  Boxes; copies of lists (slices.Clone).
-/
import Derived.Test.YtepbmgbomdekaaaDEq
import Derived.Test.YtepbmgbomdekaaaPush
import Derived.Test.YtepbmgbomdekaaaShelf
import Derived.OwnWalk
import Derived.Test.YtepbmgbomdekaaaTk
import Derived.Deep.RegionHeld3
import Derived.Laws.Tables
import Derived.Deep.MidRow
import Derived.Laws.CopyOwn
namespace Go.Proofs.Ytepbmgbomdekaaa
open Go Go.RowKit

theorem bx_cell {W : World} {B : Nat} {cs : Array Value} {t : TypeId} (h : W.heap[B]? = some (.cells cs t (0, 0))) (j : Nat) {v : Value} (hv : cs[j]? = some v) : W.cell? ⟨B, j, none⟩ = some v := by
  unfold World.cell?
  simp [h, hv]
theorem bx_frozen {W : World} {B : Nat} {cs : Array Value} {t : TypeId} (h : W.heap[B]? = some (.cells cs t (0, 0))) (j : Nat) : W.frozen? ⟨B, j, none⟩ = false := by
  unfold World.frozen?
  simp [h]
theorem bx_set {W : World} {B : Nat} {cs : Array Value} {t : TypeId} (h : W.heap[B]? = some (.cells cs t (0, 0))) (j : Nat) (v : Value) : (W.setCell ⟨B, j, none⟩ v).heap[B]? = some (.cells (cs.setIfInBounds j v) t (0, 0)) := by
  simp [World.setCell, Array.getElem?_modify, h]
theorem hp_old (W : World) (o : Obj) (b : Nat) (h : b < W.heap.size) : (W.alloc o).heap[b]? = W.heap[b]? := by
  show (W.heap.push o)[b]? = _
  rw [Array.getElem?_push, if_neg (by omega)]
theorem bx_lt {W : World} {B : Nat} {o : Obj} (h : W.heap[B]? = some o) : B < W.heap.size := (Array.getElem?_eq_some_iff.1 h).1

theorem OwnInts.ints' {n : Nat} {W : World} {a : Option Addr} {k c : Nat} {l : List Int} (h : OwnInts n W (.slice a k c) l) : Ints W.heap.size W a l := by
  obtain ⟨a', c', e, hi⟩ := h.ints
  injection e with e1 e2 e3
  subst e1
  exact hi
theorem own_set {h : Nat} {w1 : World} {v : Value} {l : List Int} (ho : OwnInts (h + 2) w1 v l) (j : Nat) (u : Value) : OwnInts (h + 2) (w1.setCell ⟨h, j, none⟩ u) v l :=
  ho.alters (alters_cell w1 h j u) (fun k hk hv => by have hk : k = h := hk; have := (World.ownsRow.lt ho k hv.symm).1; omega)
theorem own_next {h : Nat} {W w1 : World} {v : Value} {l : List Int} (ho : OwnInts (h + 2) W v l) (hb : Below W.heap.size W w1) (j : Nat) (u : Value) : OwnInts (h + 2) (w1.setCell ⟨h, j, none⟩ u) v l :=
  own_set (ho.alters (S := fun _ => False) (Alters.of_below hb) (fun _ h => h.elim)) j u
theorem below_next {h : Nat} {w0 W w1 : World} (hb : Below h w0 W) (hh : h < W.heap.size) (hb1 : Below W.heap.size W w1) (j : Nat) (u : Value) : Below h w0 (w1.setCell ⟨h, j, none⟩ u) :=
  (hb.trans (hb1.mono (Nat.le_of_lt hh))).trans ((alters_cell w1 h j u).below (Nat.le_trans (Nat.le_of_lt hh) hb1.size) (fun _ hk => Nat.le_of_eq (Eq.symm hk)))
theorem block_next {h r : Nat} {W w1 : World} {o : Obj} (hr : W.heap[r]? = some o) (hb1 : Below W.heap.size W w1) (hne : r ≠ h) (j : Nat) (u : Value) : (w1.setCell ⟨h, j, none⟩ u).heap[r]? = some o :=
  ((alters_cell w1 h j u).block r (Nat.lt_of_lt_of_le (bx_lt hr) hb1.size) hne).trans ((hb1.block r (bx_lt hr)).trans hr)
theorem own_res {h : Nat} {w1 : World} {v : Value} {l : List Int} (ho : OwnInts (h + 2) w1 v l) (j : Nat) (u : Value) : OwnInts (h + 2) (w1.setCell ⟨h + 1, j, none⟩ u) v l :=
  ho.alters (alters_cell w1 (h + 1) j u) (fun k hk hv => by have hk : k = h + 1 := hk; have := (World.ownsRow.lt ho k hv.symm).1; omega)
theorem below_res {h : Nat} {w0 W : World} (hb : Below h w0 W) (hh : h ≤ W.heap.size) (j : Nat) (u : Value) : Below h w0 (W.setCell ⟨h + 1, j, none⟩ u) ∧ h ≤ (W.setCell ⟨h + 1, j, none⟩ u).heap.size :=
  ⟨hb.trans ((alters_cell W (h + 1) j u).below hh (fun k hk => by have hk : k = h + 1 := hk; omega)), Nat.le_trans hh (alters_cell W (h + 1) j u).size⟩
theorem info_pos : (Try.prog.info? 27).map (·.size) = some 5 := by kernel_rfl
theorem idx_hand0 (a b : Option Addr) (n c m d : Nat) (w : World) : (Instr.index 25 (.agg #[.slice a n c, .slice b m d]) (.int .i64 0)).run Try.prog w = .ok (.slice a n c) w := by kernel_rfl
theorem idx_hand1 (a b : Option Addr) (n c m d : Nat) (w : World) : (Instr.index 25 (.agg #[.slice a n c, .slice b m d]) (.int .i64 1)).run Try.prog w = .ok (.slice b m d) w := by kernel_rfl
theorem info_int1 : (Try.prog.info? 3).map (fun i => (i.zero, i.size, i.bytes)) = some (some (.int .i64 0), 1, 8) := by kernel_rfl
/-- slices.Clone of numbers. -/
theorem clone_any (a : Option Addr) (cap N : Nat) (l : List Int) (w : World) (h1 : 1 ≤ l.length) (hl : l.length ≤ 1000) (hI : Ints N w a l) :
    Calls Try.prog 43 #[.slice a l.length cap] w fun e w' => ∃ g c', e = .returned (.slice (some ⟨g, 0, none⟩) l.length c') ∧ OwnInts w.heap.size w' (.slice (some ⟨g, 0, none⟩) l.length c') l ∧ Below w.heap.size w w' := by
  obtain ⟨i0, hi, hz0, hz1, hz2⟩ := info_parts info_int1
  have hlen := h1
  have key : ∀ b off, (∀ j, j < l.length → w.cell? ⟨b, off + j, none⟩ = some (.int .i64 (l[j]?.getD 0))) → Calls Try.prog 43 #[.slice (some ⟨b, off, none⟩) l.length cap] w fun e w' => ∃ g c', e = .returned (.slice (some ⟨g, 0, none⟩) l.length c') ∧ OwnInts w.heap.size w' (.slice (some ⟨g, 0, none⟩) l.length c') l ∧ Below w.heap.size w w' := by
    intro b off hc
    refine (Try.slices_Clone i0 (.int .i64 0) 1 8 hi hz0 hz1 hz2 rfl (by decide) (fun w => by simp [Go.sizeOf, typeInfo, hi, hz1]) b off l.length cap (l.map (Value.int .i64)) w (by simp) (by unfold maxLen; omega) (by omega) (fun j u hu => ?_) (by simp [Value.oneCell'])).mono ?_
    · have hj : j < l.length := by have := (List.getElem?_eq_some_iff.1 hu).1; simpa using this
      rw [hc j hj, ← hu]; simp [hj]
    · rintro e w' ⟨v, rfl, h1, _, h2⟩
      rcases OwnInts.form (l := l) h1 with ⟨_, h⟩ | ⟨g, c', rfl, _⟩
      · subst h; simp at hlen
      · exact ⟨g, c', rfl, h1, h2⟩
  rcases hI with rfl | ⟨b, off, rfl, _, hc⟩
  · simp at h1
  · exact key b off hc

/-- Two results, the first of which lies in memory. -/
theorem results_ct {fn : Func} {p q : Tmp} {ty : TypeId} (h : fn.results = #[.cell p ty, .tmp q]) (tmps : Array Value) (P : Program) (w : World) (a : Addr) (v : Value)
    (hp : tmps.getD p undef = .pointer (some a)) (hv : (loadVar ty a).run P w = .ok v w) : (results fn tmps).run P w = .ok (.tuple #[v, tmps.getD q undef]) w := by
  have hp' : tmps[p]?.getD undef = .pointer (some a) := by simpa using hp
  simp [results, h, hp', asAddr, hv]
theorem results_cc {fn : Func} {p q : Tmp} {ty ty2 : TypeId} (h : fn.results = #[.cell p ty, .cell q ty2]) (tmps : Array Value) (P : Program) (w : World) (a a2 : Addr) (v v2 : Value)
    (hp : tmps.getD p undef = .pointer (some a)) (hv : (loadVar ty a).run P w = .ok v w)
    (hp2 : tmps.getD q undef = .pointer (some a2)) (hv2 : (loadVar ty2 a2).run P w = .ok v2 w) : (results fn tmps).run P w = .ok (.tuple #[v, v2]) w := by
  have hp' : tmps[p]?.getD undef = .pointer (some a) := by simpa using hp
  have hp2' : tmps[q]?.getD undef = .pointer (some a2) := by simpa using hp2
  simp [results, h, hp', hp2', asAddr, hv, hv2]
theorem info_mat : (Try.prog.info? 39).map (·.size) = some 5 := by kernel_rfl
theorem info_game : (Try.prog.info? 35).map (·.size) = some 9 := by kernel_rfl
/-- The boxes that a call lays at its start. -/
theorem two_boxes (w : World) (x1 x2 : Array Value) (t1 t2 : TypeId) : Below w.heap.size w ((w.alloc (.cells x1 t1)).alloc (.cells x2 t2)) ∧ ((w.alloc (.cells x1 t1)).alloc (.cells x2 t2)).heap[w.heap.size]? = some (.cells x1 t1 (0, 0)) ∧
    ((w.alloc (.cells x1 t1)).alloc (.cells x2 t2)).heap[w.heap.size + 1]? = some (.cells x2 t2 (0, 0)) ∧ ((w.alloc (.cells x1 t1)).alloc (.cells x2 t2)).heap.size = w.heap.size + 2 := by
  refine ⟨below_alloc (below_alloc (Below.refl _ _) _) _, ?_, ?_, by simp⟩
  · rw [hp_old _ _ _ (by simp)]; exact World.alloc_heap_new _ _
  · have := World.alloc_heap_new (w.alloc (.cells x1 t1)) (.cells x2 t2); simpa using this
theorem three_boxes (w : World) (x1 x2 x3 : Array Value) (t1 t2 t3 : TypeId) : Below w.heap.size w (((w.alloc (.cells x1 t1)).alloc (.cells x2 t2)).alloc (.cells x3 t3)) ∧ (((w.alloc (.cells x1 t1)).alloc (.cells x2 t2)).alloc (.cells x3 t3)).heap[w.heap.size]? = some (.cells x1 t1 (0, 0)) ∧
    (((w.alloc (.cells x1 t1)).alloc (.cells x2 t2)).alloc (.cells x3 t3)).heap[w.heap.size + 1]? = some (.cells x2 t2 (0, 0)) ∧ (((w.alloc (.cells x1 t1)).alloc (.cells x2 t2)).alloc (.cells x3 t3)).heap[w.heap.size + 2]? = some (.cells x3 t3 (0, 0)) ∧
    (((w.alloc (.cells x1 t1)).alloc (.cells x2 t2)).alloc (.cells x3 t3)).heap.size = w.heap.size + 3 := by
  obtain ⟨h1, h2, h3, h4⟩ := two_boxes w x1 x2 t1 t2
  refine ⟨below_alloc h1 _, (hp_old _ _ _ (bx_lt h2)).trans h2, (hp_old _ _ _ (bx_lt h3)).trans h3, ?_, by simp⟩
  have := World.alloc_heap_new ((w.alloc (.cells x1 t1)).alloc (.cells x2 t2)) (.cells x3 t3)
  rwa [h4] at this
theorem info_mk : (Try.prog.info? 3).map (fun i => (i.zero, i.size, i.bytes)) = some (some (.int .i64 0), 1, 8) := by kernel_rfl
/-- 'make([]int, n)': as many zeros, of the call's own. -/
theorem wpList_mk {w : World} {ops : Array Oper} {rest : List Oper} {o : Oper} {a : Act} {Q : Exit → Act → World → Prop} (hg : o.guard = none) (l c : Operand) (hop : o.op = Op.makeSlice 24 l c)
    (n : Nat) (hl : a.eval l = .int .i64 (n : Int)) (hc : a.eval c = .int .i64 (n : Int)) (hn : n ≤ 100000)
    (hK : ∀ w', OwnInts w.heap.size w' (.slice (some ⟨w.heap.size, 0, none⟩) n n) (List.replicate n 0) → Below w.heap.size w w' → wpList Try.prog ops Q rest (a.put o.dst (.slice (some ⟨w.heap.size, 0, none⟩) n n)) w') :
    wpList Try.prog ops Q (o :: rest) a w := by
  obtain ⟨i0, hi, hz0, hz1, hz2⟩ := info_parts info_mk
  refine wpList_make_full w hg l c _ hop w.heap.size _ i0 (.int .i64 0) 1 Try.underlying24 hi hz0 hz1 .i64 .i64 n n n hl hc rfl rfl (by rw [hz2]; omega) (by unfold maxLen; omega) (Nat.le_refl _) ?_
  intro w' ho hgr
  have hb : Below w.heap.size w w' := (Alters.of_grown hgr).below (Nat.le_refl _) (fun k hk => by cases hk)
  refine hK w' ?_ hb
  · show w'.ownsRow _ _ _ _ (List.replicate n (0 : Int)).length ((List.replicate n (0 : Int)).map (Value.int .i64))
    rw [List.length_replicate, List.map_replicate]
    have e2 : (madeCells (Value.int .i64 0).cells (n * 1)).toList = List.replicate n (.int .i64 0) := by rw [Nat.mul_one]; exact toList_madeCells_one _ _
    rw [← e2]
    exact ho
theorem step_call_h {w : World} {ops : Array Oper} {o : Oper} {a : Act} {K : Act → World → Prop} {Q : Exit → Act → World → Prop} {E : Prop} (hw : Region.wanted o (yielded ops a.tmps) = true) (f : Nat) (xs : Array Operand) (ts : Array TypeId) (args : Array Value)
    (ho : o.op = .call { callee := .value (.func f), args := xs, argTypes := ts }) (hal : xs.toList.map a.eval = args.toList) (eg : ∀ args w, (callFunc f args).run Try.prog w = .ok (.enter f args) w)
    (h : Calls Try.prog f args w fun e w' => ∃ v, e = .returned v ∧ K (a.put o.dst v) w') :
    if Region.wanted o (yielded ops a.tmps) = true then Oper.wp Try.prog o a w K Q else E := by
  rw [if_pos hw]
  have ha : xs.map a.eval = args := Array.ext' (by simpa using hal)
  have hr : (execOp a.eval o).run Try.prog w = .ok (.enter f args) w := by
    simp [execOp, ho, resolve, Deferred.ofValue, Act.eval, invoke] at ha ⊢
    rw [ha]
    exact eg args w
  unfold Oper.wp
  rw [hr]
  exact h.mono (by rintro e w' ⟨v, rfl, hk⟩; exact hk)

theorem setRow_alt (W : World) (q : Nat) (cs : Array Value) : Alters (fun b => b = q) W (W.setRow q cs) := ⟨rfl, rfl, rfl, by rw [size_setRow]; exact Nat.le_refl _, fun k _ hs => setRow_other W q k _ hs⟩
/-- A store of a whole struct or array into its box, in a region. -/
theorem step_store_rw {ops : Array Oper} {o : Oper} {a : Act} {w : World} {K : Act → World → Prop} {Q : Exit → Act → World → Prop} {E : Prop} (hw : Region.wanted o (yielded ops a.tmps) = true) (ty : TypeId) (x y : Operand) (ho : o.op = .store ty x y)
    (b : Nat) (cs : Array Value) (hx : a.eval x = .pointer (some ⟨b, 0, none⟩)) (hy : a.eval y = .agg cs) (t : TypeId) (old : Array Value) (hg : w.heap[b]? = some (.cells old t (0, 0))) (hi : (Try.prog.info? ty).map (·.size) = some cs.size) (hold : old.size = cs.size) (h1 : cs.all (·.oneCell') = true)
    (h : K (a.put o.dst undef) (w.setRow b cs)) : if Region.wanted o (yielded ops a.tmps) = true then Oper.wp Try.prog o a w K Q else E := by
  rw [if_pos hw]
  exact wp_store_row ty x y ho b cs hx hy t old hg hi hold h1 h
/-- A block of cells stands as it did. -/
theorem hp_up {W W' : World} {B : Nat} {o : Obj} (h : W.heap[B]? = some o) (hb : Below W.heap.size W W') : W'.heap[B]? = some o := (hb.block B (bx_lt h)).trans h
end Go.Proofs.Ytepbmgbomdekaaa
