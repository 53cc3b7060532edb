/-
  joined of the package board, walked.
-/
import Derived.Test.YtcpjkilnbhfpjaaDoorJoin
import Derived.Test.YtcpjkilnbhfpjaaDoorNear
namespace Go.Proofs.YtcpjkilnbhfpjaaDoor
open Go Go.RowKit Go.Shelf

attribute [local go_sem] Oper.semAt_some

/-- The board's box. -/
def boardObj (B : Brd) (an at_ : Option Addr) (cn ct : Nat) : Obj := .cells #[.int .i64 B.cells, .slice an B.next.length cn, .slice at_ B.turn.length ct] 31

/-- The state of joined in memory. -/
structure JSt (b : Obj) (n h : Nat) (Gd : Value → Prop) (w : World) (rows : List (List Int)) (vs : List Value) (W : World) : Prop where
  bb : W.heap[h]? = some b
  b3 : Boxed W (h + 1 + 1) 28 (.slice (some ⟨h + 1, 0, none⟩) n n)
  rows : OwnRows h (h + 1) n Gd rows vs W
  below : Below h w W

theorem JSt.alters {b : Obj} {n h : Nat} {Gd : Value → Prop} {w : World} {rows : List (List Int)} {vs : List Value} {X Y : World} (hs : JSt b n h Gd w rows vs X) {S : Nat → Prop} (ha : Alters S X Y) (hh : h ≤ X.heap.size) (h0 : ∀ k, S k → h + 1 + 1 < k) (hS : ∀ k, S k → ∀ v ∈ vs, ¬ some k = v.ownBlock) : JSt b n h Gd w rows vs Y :=
  ⟨(ha.block h (Array.getElem?_eq_some_iff.1 hs.bb).1 (fun e => by have := h0 _ e; omega)).trans hs.bb, ha.boxed hs.b3 (fun e => by have := h0 _ e; omega), hs.rows.alters ha (fun e => by have := h0 _ e; omega) hS, hs.below.trans (ha.below hh (fun k e => by have := h0 k e; omega))⟩

theorem JSt.not_obj {b : Obj} {n h : Nat} {Gd : Value → Prop} {w : World} {rows : List (List Int)} {vs : List Value} {X : World} (hs : JSt b n h Gd w rows vs X) {v : Value} (hv : v ∈ vs) {D : Nat} {o : Obj} (ho : X.heap[D]? = some o) (hc : o.isCells = false) : ¬ some D = v.ownBlock := by
  obtain ⟨i, hi⟩ := List.getElem?_of_mem hv
  exact not_own (hs.rows.own i v hi) ho hc

theorem JSt.kept {b : Obj} {n h : Nat} {Gd : Value → Prop} {w : World} {rows : List (List Int)} {vs : List Value} {X Y : World} {row : Option Nat} (hs : JSt b n h Gd w rows vs X) (hh : h ≤ X.heap.size) (hg : X.grownBy Y row)
    (ho : ∀ r, row = some r → h + 1 + 1 < r ∧ ∃ o : Obj, X.heap[r]? = some o ∧ o.isCells = false) : JSt b n h Gd w rows vs Y :=
  hs.alters (Alters.of_grown hg) hh (fun k e => (ho k e.symm).1) (fun k e v hv => by
    obtain ⟨_, o, h1, h2⟩ := ho k e.symm
    exact hs.not_obj hv h1 h2)

theorem JSt.mono {b : Obj} {n h : Nat} {Gd Gd' : Value → Prop} {w : World} {rows : List (List Int)} {vs : List Value} {X : World} (hs : JSt b n h Gd w rows vs X) (hG : ∀ v ∈ vs, Gd' v) : JSt b n h Gd' w rows vs X :=
  ⟨hs.bb, hs.b3, hs.rows.mono hG, hs.below⟩

theorem JSt.lt {b : Obj} {n h : Nat} {Gd : Value → Prop} {w : World} {rows : List (List Int)} {vs : List Value} {X : World} (hs : JSt b n h Gd w rows vs X) {v : Value} (hv : v ∈ vs) {k : Nat} (hk : some k = v.ownBlock) : h ≤ k ∧ k < X.heap.size := by
  obtain ⟨i, hi⟩ := List.getElem?_of_mem hv
  exact World.ownsRow.lt (hs.rows.own i v hi) k hk.symm

/-- Behind 'both[i] = append(both[i], x)'. -/
theorem JSt.add {b : Obj} {t : TypeId} {bc : Array Value} (hb : b = .cells bc t (0, 0)) (ht : t ≠ 3) {n h : Nat} {Gd : Value → Prop} {w : World} {rows : List (List Int)} {vs : List Value} {X w5 : World} (hs : JSt b n h Gd w rows vs X) (hh : h ≤ X.heap.size) {i : Nat} {v : Value} (hv : vs[i]? = some v) {x : Int} {g cap : Nat} {tmp : Obj}
    (hown : OwnInts h w5 (.slice (some ⟨g, 0, none⟩) ((rows[i]?.getD []).length + 1) cap) (rows[i]?.getD [] ++ [x])) (hgrow : (X.alloc tmp).grownBy w5 v.ownBlock) (hat : v.ownBlock = some g ∨ g = (X.alloc tmp).heap.size)
    (hG : Gd (.slice (some ⟨g, 0, none⟩) ((rows[i]?.getD []).length + 1) cap)) :
    JSt b n h Gd w (addAt rows i x) (vs.set i (.slice (some ⟨g, 0, none⟩) ((rows[i]?.getD []).length + 1) cap)) (w5.setCell ⟨h + 1, i, none⟩ (.slice (some ⟨g, 0, none⟩) ((rows[i]?.getD []).length + 1) cap)) ∧
      Alters (fun k => k = h + 1 ∨ some k = v.ownBlock) X (w5.setCell ⟨h + 1, i, none⟩ (.slice (some ⟨g, 0, none⟩) ((rows[i]?.getD []).length + 1) cap)) := by
  obtain ⟨h1, h2⟩ := hs.rows.append hv hown hgrow hat hG
  subst hb
  have hnb := hs.rows.not_own hv hs.bb ht
  have hn3 := hs.rows.not_own hv hs.b3 (by decide)
  refine ⟨⟨(h2.block h (Array.getElem?_eq_some_iff.1 hs.bb).1 ?_).trans hs.bb, h2.boxed hs.b3 ?_, h1, hs.below.trans (h2.below hh ?_)⟩, h2⟩
  · rintro (e | e)
    · omega
    · exact hnb e
  · rintro (e | e)
    · omega
    · exact hn3 e
  · intro k e
    rcases e with rfl | e
    · omega
    · exact (hs.lt (List.mem_of_getElem? hv) e).1

/-- Between two rounds of the loop over the steps from c. -/
def JoinI (B : Brd) (b : Obj) (n h s2 : Nat) (w : World) (c : Nat) (rows : List (List Int)) (Ds : List Nat) (pre : List { y : Int // 0 ≤ y ∧ y < B.cells }) (X : World) : Prop :=
  ∃ vs, JSt b n h (fun v => ∀ k, some k = v.ownBlock → k < s2 ∨ s2 + 3 ≤ k) w ((pre.map (·.1)).foldl (joinStep c) rows) vs X ∧ Boxed X s2 3 (.int .i64 c) ∧ s2 + 3 ≤ X.heap.size ∧ ∀ D ∈ Ds, X.heap[D]? = some (.deferred (some []))

set_option maxRecDepth 100000 in
set_option maxHeartbeats 2000000 in
theorem joined_any (B : Brd) (hB : B.Ok) (n : Nat) (hn : B.cells = n) (an at_ : Option Addr) (cn ct : Nat) (N : Nat) (w : World) (hN : N ≤ w.heap.size) (hH : Held N w an at_ B) :
    CallsIn Fence.wide 4 Tryd.prog 47 #[B.val an cn at_ ct] w fun e W' => ∃ B3 G Gd vs, e = .returned (.func (.func 59) #[] #[.pointer (some ⟨B3, 0, none⟩)]) ∧
      Boxed W' B3 28 (.slice (some ⟨G, 0, none⟩) n n) ∧ OwnRows w.heap.size G n Gd (joinTo B n n) vs W' ∧ Below w.heap.size w W' ∧ w.heap.size ≤ B3 ∧ w.heap.size ≤ G := by
  have hlo := hB.lo
  have hhi := hB.hi
  have hdirs := hB.dirs
  have hn64 : n ≤ 64 := by omega
  have f1 : Fence.wide.fn 37 := trivial
  have HN := Lib.hid hn
  clear hn
  refine callsIn_of_wp_marks Tryd.func47 rfl trivial ?_ rfl
  simp only [Tryd.ntmps47, List.size_toArray, List.length_cons, List.length_nil, Nat.reduceAdd, Nat.reduceSub, Array.replicate_succ, Array.replicate_zero, List.push_toArray, List.append_toArray, List.nil_append, List.cons_append]
  gi_wp2_with (gi_at_make; refine wpListIn_make_rows rfl _ _ rfl n hn64 B.cells HN.out rfl rfl ?_; rintro w1 rfl)
  obtain ⟨W0, hW0⟩ : ∃ W0, (((w.alloc (Obj.cells #[Value.int IntKind.i64 B.cells, Value.slice an B.next.length cn, Value.slice at_ B.turn.length ct] 31)).alloc (Obj.cells (nils n).toArray 29)).alloc
      (Obj.cells #[Value.slice (some { block := w.heap.size + 1, off := 0 }) n n] 28)) = W0 := ⟨_, rfl⟩
  have hs0 : W0.heap.size = w.heap.size + 3 := by rw [← hW0]; simp
  have hst0 : JSt (boardObj B an at_ cn ct) n w.heap.size (fun _ => True) w (joinTo B n 0) (nils n) W0 := by
    refine ⟨?_, ?_, ownRows_new _ _ _ _ _ trivial ?_, ?_⟩
    · rw [← hW0]
      exact ((Below.heap_alloc _ _ _ (by simp; omega)).trans (Below.heap_alloc _ _ _ (by simp))).trans (World.alloc_heap_new w _)
    · rw [← hW0]; exact boxed_new_at _ _ _ _ (by simp)
    · rw [← hW0]
      refine (Below.heap_alloc _ _ _ (by simp)).trans ?_
      have := World.alloc_heap_new (w.alloc (Obj.cells #[Value.int IntKind.i64 B.cells, Value.slice an B.next.length cn, Value.slice at_ B.turn.length ct] 31)) (Obj.cells (nils n).toArray 29)
      rw [World.size_alloc] at this
      exact this
    · rw [← hW0]; (repeat (first | exact Below.refl _ _ | assumption | refine below_alloc ?_ _ | refine Below.drew ?_ | refine below_drewN_ ?_ _ | refine below_step ?_ (by assumption)))
  rw [hW0]
  clear hW0
  refine wpIn_loop_ghost (fun j a W => ∃ (k : Nat) (Ds : List Nat) (vs : List Value) (u4 u5 u12 u13 u14 u15 u16 u17 u18 u19 u20 u21 u22 u23 u24 u25 u26 u27 u28 u29 u30 u31 u32 u33 u34 u35 u36 u37 u38 u39 : Value), a = { tmps := #[B.val an cn at_ ct, Value.pointer (some { block := w.heap.size, off := 0 }), Value.nilFunc, Value.pointer (some { block := w.heap.size + 1 + 1, off := 0 }), u4, u5, Value.pointer (some { block := w.heap.size, off := 0 }), Value.int IntKind.i64 B.cells, Value.slice (some { block := w.heap.size + 1, off := 0 }) n n, Value.slice (some { block := w.heap.size + 1, off := 0 }) n n, Value.int IntKind.i64 ↑n, Value.int IntKind.i64 k, u12, u13, u14, u15, u16, u17, u18, u19, u20, u21, u22, u23, u24, u25, u26, u27, u28, u29, u30, u31, u32, u33, u34, u35, u36, u37, u38, u39], defers := marksOf Ds } ∧
    j + k = n ∧ JSt (boardObj B an at_ cn ct) n w.heap.size (fun _ => True) w (joinTo B n k) vs W ∧ w.heap.size + 3 ≤ W.heap.size ∧ Ds.Nodup ∧ ∀ D ∈ Ds, w.heap.size + 3 ≤ D ∧ W.heap[D]? = some (.deferred (some []))) n ?_ ?_
  · exact ⟨0, [], _, _, _, _, _, _, _, _, _, _, _, _, _, _, _, _, _, _, _, _, _, _, _, _, _, _, _, _, _, _, _, rfl, by omega, hst0, by omega, List.nodup_nil, by simp⟩
  rintro j a W ⟨k, Ds, vs, u4, u5, u12, u13, u14, u15, u16, u17, u18, u19, u20, u21, u22, u23, u24, u25, u26, u27, u28, u29, u30, u31, u32, u33, u34, u35, u36, u37, u38, u39, rfl, hjk, hst, hsz, hnd, hDs⟩
  have hc3 := hst.b3.cell
  by_cases hlt : k < n
  · have hb0 : W.cell? ⟨w.heap.size, 0, none⟩ = some (.int .i64 B.cells) := by unfold World.cell?; rw [hst.bb]; rfl
    have hb1 : W.cell? ⟨w.heap.size, 1, none⟩ = some (.slice an B.next.length cn) := by unfold World.cell?; rw [hst.bb]; rfl
    have hb2 : W.cell? ⟨w.heap.size, 2, none⟩ = some (.slice at_ B.turn.length ct) := by unfold World.cell?; rw [hst.bb]; rfl
    have hlt1 : w.heap.size < W.heap.size := by omega
    have hlt3 : w.heap.size + 1 + 1 < W.heap.size := by omega
    gi_wp2_with (gi_at_call 37; refine (callsIn_wide.2 (steps_any _ _ _ _ _)).mono ?_; rintro e w' ⟨rfl, rfl⟩)
    have hst1 := hst.mono (Gd' := fun v => ∀ i, some i = v.ownBlock → i < W.heap.size ∨ W.heap.size + 3 ≤ i) (fun v hv i hi => .inl (hst.lt hv hi).2)
    obtain ⟨W2, hW2⟩ : ∃ W2, (((W.alloc (Obj.cells #[Value.int IntKind.i64 ↑k] 3)).alloc (Obj.cells #[Value.int IntKind.i64 B.cells, Value.slice an B.next.length cn, Value.slice at_ B.turn.length ct] 31)).alloc (Obj.cells #[Value.int IntKind.i64 ↑k] 3)) = W2 := ⟨_, rfl⟩
    have hs2 : W2.heap.size = W.heap.size + 3 := by rw [← hW2]; simp
    have hB2 : Below W.heap.size W W2 := by rw [← hW2]; (repeat (first | exact Below.refl _ _ | assumption | refine below_alloc ?_ _ | refine Below.drew ?_ | refine below_drewN_ ?_ _ | refine below_step ?_ (by assumption)))
    have hbc2 : Boxed W2 W.heap.size 3 (.int .i64 k) := by rw [← hW2]; exact ((boxed_new_at _ _ _ _ rfl).alloc _).alloc _
    have k0 : W2.cell? ⟨W.heap.size + 1, 0, none⟩ = some (.int .i64 B.cells) := by rw [← hW2]; exact cell_alloc_keep (cell_new_at _ _ _ _ _ _ (by simp) rfl) _
    have k1 : W2.cell? ⟨W.heap.size + 1, 1, none⟩ = some (.slice an B.next.length cn) := by rw [← hW2]; exact cell_alloc_keep (cell_new_at _ _ _ _ _ _ (by simp) rfl) _
    have k2 : W2.cell? ⟨W.heap.size + 1, 2, none⟩ = some (.slice at_ B.turn.length ct) := by rw [← hW2]; exact cell_alloc_keep (cell_new_at _ _ _ _ _ _ (by simp) rfl) _
    have k3 : W2.cell? ⟨W.heap.size + 1 + 1, 0, none⟩ = some (.int .i64 k) := by rw [← hW2]; exact cell_new_at _ _ _ _ _ _ (by simp) rfl
    have hst2 := hst1.alters (S := fun _ => False) (Alters.of_below hB2) (by omega) (fun _ e => e.elim) (fun _ e => e.elim)
    have hDs2 : ∀ D ∈ Ds, W2.heap[D]? = some (.deferred (some [])) := fun D hD => (hB2.block D (Array.getElem?_eq_some_iff.1 (hDs D hD).2).1).trans (hDs D hD).2
    have hHW := hH.up hN (hst.below.trans (hB2.mono (by omega)))
    rw [hW2]
    clear hW2 hb0 hb1 hb2 hst1
    refine wpIn_rangeFunc_ownG (N := B.next.length) rfl (by omega) (gf := 54) (lb := #[.pointer (some ⟨W.heap.size + 1, 0, none⟩), .pointer (some ⟨W.heap.size + 1 + 1, 0, none⟩)]) rfl trivial (enters_of Tryd.func54 (by kernel_rfl) rfl)
      ((steps_stopsInt 2 B hB an at_ cn ct k (W.heap.size + 1) (W.heap.size + 1 + 1) N W2 (by omega) (by omega) (by omega) k0 k1 k2 k3 hHW).seqK) (fun h k => h.trans k)
      (stepsKp_b (by omega) (by omega) (by omega)) (Below.refl _ _) (fun _ => rfl)
      (JoinI B (boardObj B an at_ cn ct) n w.heap.size W.heap.size w k (joinTo B n k) Ds)
      (fun _ _ _ => False) ?hI (fun _ _ _ _ _ hs _ _ => hs) ⟨vs, hst2, hbc2, by omega, hDs2⟩
      (fun x => { tmps := #[B.val an cn at_ ct, Value.pointer (some { block := w.heap.size, off := 0 }), Value.nilFunc, Value.pointer (some { block := w.heap.size + 1 + 1, off := 0 }), Value.pointer (some { block := W.heap.size, off := 0 }), .int .i64 x.1, Value.pointer (some { block := w.heap.size, off := 0 }), Value.int IntKind.i64 B.cells, Value.slice (some { block := w.heap.size + 1, off := 0 }) n n, Value.slice (some { block := w.heap.size + 1, off := 0 }) n n, Value.int IntKind.i64 ↑n, Value.int IntKind.i64 k, Value.bool true, Value.int IntKind.i64 ↑k,
          Value.agg #[Value.int IntKind.i64 B.cells, Value.slice an B.next.length cn, Value.slice at_ B.turn.length ct],
          Value.int IntKind.i64 ↑k,
          Value.func (Fn.func 54) #[]
            #[Value.pointer (some { block := W.heap.size + 1, off := 0 }),
              Value.pointer (some { block := W.heap.size + 1 + 1, off := 0 })], .int .i64 x.1, u18, u19, u20, u21, u22, u23, u24, u25, u26, u27, u28, u29, u30, u31, u32, u33, u34, u35, u36, u37, u38, u39], defers := [] }) ?assign ?body ?done ?stop
    case hI =>
      rintro s X Y row ⟨vs', hst', hbx, hszX, hDsX⟩ hg hr
      have hrne : ∀ k, k < W2.heap.size → ¬ some k = row := fun k hk e => by have := (hr k e.symm).1; omega
      exact ⟨vs', hst'.kept (by omega) hg (fun r e => ⟨by have := (hr r e).1; omega, (hr r e).2⟩), hbx.kept hg (hrne _ (by omega)), Nat.le_trans hszX hg.size, fun D hD =>
        (hg.block D (Array.getElem?_eq_some_iff.1 (hDsX D hD)).1 (hrne D (Array.getElem?_eq_some_iff.1 (hDs2 D hD)).1)).trans (hDsX D hD)⟩
    case assign =>
      intro l x X K hK
      gi_wp2
      exact hK
    case body =>
      rintro l pre ⟨x, hx0, hx1⟩ X ⟨vs', hst', hbx, hszX, hDsX⟩ hlp
      obtain ⟨x, rfl⟩ := Int.eq_ofNat_of_zero_le hx0
      have hxn : x < n := by have := HN.out; omega
      have hok0 := joinFold_ok hlt (pre.map (·.1)) _ _ (joinTo_ok hB HN.out k (by omega)) (by intro y hy; obtain ⟨z, _, rfl⟩ := List.mem_map.1 hy; have := HN.out; have := z.2; omega)
      have hok := hok0.mono (m' := 1100) (by simp; omega)
      clear hok0
      have hfold : ((pre ++ [(⟨(x : Int), hx0, hx1⟩ : { y : Int // 0 ≤ y ∧ y < B.cells })]).map (·.1)).foldl (joinStep k) (joinTo B n k) = addAt (addAt ((pre.map (·.1)).foldl (joinStep k) (joinTo B n k)) k x) x k := by rw [List.map_append, List.foldl_append]; rfl
      generalize (pre.map (·.1)).foldl (joinStep k) (joinTo B n k) = rs at hst' hok hfold
      have HF := Lib.hid hfold
      clear hfold
      have hx1' : (x : Int) < (n : Int) := by omega
      have hk1' : (k : Int) < (n : Int) := by omega
      have hx00 : (0 : Int) ≤ (x : Int) := Int.natCast_nonneg _
      have hk00 : (0 : Int) ≤ (k : Int) := Int.natCast_nonneg _
      clear hst hst2 hst0
      have HSX := Lib.hid hs2
      clear hs2
      obtain ⟨v1, hv1, hcI, hfI⟩ := hst'.rows.cell (i := k) (by omega)
      have hokI := hok.at_ k
      have hownI : OwnInts w.heap.size X v1 (rs[k]?.getD []) := hst'.rows.own k v1 hv1
      have hmI := List.mem_of_getElem? hv1
      have hcb3 := hst'.b3.cell
      have hcbc := hbx.cell
      have hgdI : ¬ some W.heap.size = v1.ownBlock := fun e => by have := hst'.rows.good v1 hmI _ e; omega
      have hn3I : ¬ some (w.heap.size + 1 + 1) = v1.ownBlock := hst'.rows.not_own hv1 hst'.b3 (by decide)
      have hnGI : ¬ some (w.heap.size + 1) = v1.ownBlock := hst'.rows.not_own hv1 hst'.rows.heap (by decide)
      gi_wp2_with fail
      refine wpIn_region_round (S := fun w' => w'.cell? ⟨w.heap.size + 1 + 1, 0, none⟩ = some (.slice (some ⟨w.heap.size + 1, 0, none⟩) n n) ∧ w'.cell? ⟨W.heap.size, 0, none⟩ = some (.int .i64 k)) (by kernel_rfl) (nodefer (by rfl)) (fun ⟨_, _, h⟩ => h) ⟨hcb3, hcbc⟩ (fun hHeld => ?_)
      have hcI' : X.drew.cell? ⟨w.heap.size + 1, k, none⟩ = some v1 := hcI
      refine wpAnyH_take (i := 0) (oi := { dst := some 18, op := Op.load 28 (Operand.tmp 3), type := 28, pos := "step.go:68", after := #[], guard := none }) (v := ?_) rfl (by kernel_rfl) (by kernel_rfl) (by kernel_rfl) (fun _ _ _ h => h) (Or.inl ⟨by rfl, ?_⟩) (by assumption) ?_
      rotate_left
      · ((intro w hSw; (try dsimp only at hSw); go_simp); try with_reducible rfl)
      (try simp only [Act.put, List.setIfInBounds_toArray, List.set_cons_zero, List.set_cons_succ])
      refine wpAnyH_take (i := 1) (oi := { dst := some 19, op := Op.load 3 (Operand.tmp 4), type := 3, pos := "step.go:68", after := #[], guard := none }) (v := ?_) rfl (by kernel_rfl) (by kernel_rfl) (by kernel_rfl) (fun _ _ _ h => h) (Or.inl ⟨by rfl, ?_⟩) (by assumption) ?_
      rotate_left
      · ((intro w hSw; (try dsimp only at hSw); go_simp); try with_reducible rfl)
      (try simp only [Act.put, List.setIfInBounds_toArray, List.set_cons_zero, List.set_cons_succ])
      refine wpAnyH_take (i := 2) (oi := { dst := some 20, op := Op.load 28 (Operand.tmp 3), type := 28, pos := "step.go:68", after := #[], guard := none }) (v := ?_) rfl (by kernel_rfl) (by kernel_rfl) (by kernel_rfl) (fun _ _ _ h => h) (Or.inl ⟨by rfl, ?_⟩) (by assumption) ?_
      rotate_left
      · ((intro w hSw; (try dsimp only at hSw); go_simp); try with_reducible rfl)
      (try simp only [Act.put, List.setIfInBounds_toArray, List.set_cons_zero, List.set_cons_succ])
      refine wpAnyH_take (i := 3) (oi := { dst := some 21, op := Op.load 3 (Operand.tmp 4), type := 3, pos := "step.go:68", after := #[], guard := none }) (v := ?_) rfl (by kernel_rfl) (by kernel_rfl) (by kernel_rfl) (fun _ _ _ h => h) (Or.inl ⟨by rfl, ?_⟩) (by assumption) ?_
      rotate_left
      · ((intro w hSw; (try dsimp only at hSw); go_simp); try with_reducible rfl)
      (try simp only [Act.put, List.setIfInBounds_toArray, List.set_cons_zero, List.set_cons_succ])
      refine wpAnyH_take (i := 4) (oi := { dst := some 22, op := Op.indexAddr 28 (Operand.tmp 20) (Operand.tmp 21), type := 0, pos := "step.go:68", after := #[{ on := 2, ground := Ground.data }, { on := 3, ground := Ground.data }], guard := none }) (v := ?_) rfl (by kernel_rfl) (by kernel_rfl) (by kernel_rfl) (fun _ _ _ h => h) (Or.inl ⟨by rfl, ?_⟩) (by assumption) ?_
      rotate_left
      · ((intro w hSw; (try dsimp only at hSw); go_simp); try with_reducible rfl)
      (try simp only [Act.put, List.setIfInBounds_toArray, List.set_cons_zero, List.set_cons_succ])
      refine wpAnyH_take (i := 6) (oi := { dst := some 24, op := Op.move (Operand.tmp 5), type := 3, pos := "step.go:68", after := #[], guard := none }) (v := ?_) rfl (by kernel_rfl) (by kernel_rfl) (by kernel_rfl) (fun _ _ _ h => h) (Or.inl ⟨by rfl, ?_⟩) (by assumption) ?_
      rotate_left
      · ((intro w hSw; (try dsimp only at hSw); go_simp); try with_reducible rfl)
      (try simp only [Act.put, List.setIfInBounds_toArray, List.set_cons_zero, List.set_cons_succ])
      refine wpAnyH_ready (rs := [5, 7]) (by kernel_rfl) (by simp) ?_
      refine AllReadyH.cons (o := { dst := some 23, op := Op.load 29 (Operand.tmp 22), type := 29, pos := "step.go:68", after := #[{ on := 4, ground := Ground.data }], guard := none }) rfl (fun K hK => ?_) (AllReadyH.cons (o := { dst := some 25, op := Op.buildSlice 29 1 #[(0, Operand.tmp 24)], type := 29, pos := "step.go:68", after := #[{ on := 6, ground := Ground.data }], guard := none }) rfl (fun K hK => ?_) AllReadyH.nil)
      · go_simp
        refine hK.out _ _ hHeld (fun _ => ?_)
        clear hK K
        (try simp only [Act.put, List.setIfInBounds_toArray, List.set_cons_zero, List.set_cons_succ])
        refine wpAnyH_ready (rs := [7]) (by kernel_rfl) (by simp) ?_
        refine AllReadyH.cons (o := { dst := some 25, op := Op.buildSlice 29 1 #[(0, Operand.tmp 24)], type := 29, pos := "step.go:68", after := #[{ on := 6, ground := Ground.data }], guard := none }) rfl (fun K hK => ?_) AllReadyH.nil
        go_simp
        refine hK.out _ _ ⟨cell_alloc_keep hHeld.1 _, cell_alloc_keep hHeld.2 _⟩ (fun _ => ?_)
        clear hK K
        (try simp only [Act.put, List.setIfInBounds_toArray, List.set_cons_zero, List.set_cons_succ])
        refine wpAnyH_ready (rs := [8]) (by kernel_rfl) (by simp) ?_
        refine AllReadyH.cons (o := { dst := some 26, op := Op.call { callee := Callee.builtin Builtin.append, args := #[Operand.tmp 23, Operand.tmp 25], argTypes := #[29, 29] }, type := 29, pos := "step.go:68", after := #[{ on := 5, ground := Ground.data }, { on := 7, ground := Ground.data }], guard := none }) rfl (fun K hK => ?_) AllReadyH.nil
        refine step_append_at rfl _ _ rfl w.heap.size v1 (rs[k]?.getD []) rfl (World.ownsRow.alloc hownI _) (by omega) (by have := hst'.below.size; show _ ≤ (World.alloc _ _).heap.size; rw [World.size_alloc]; omega) ⟨X.heap.size, 0, none⟩ ↑x rfl (cell_new_at _ _ _ _ _ _ rfl rfl) ?_
        intro g cap w5 hown5 hgrow5 hat5
        have hgrowI : (X.alloc (.cells #[.int .i64 ↑x] 3)).grownBy w5 v1.ownBlock := ⟨hgrow5.os, hgrow5.tape, hgrow5.output, hgrow5.size, hgrow5.block⟩
        have halI : Alters (fun k => some k = v1.ownBlock) X w5 := (Alters.of_below ((Below.refl _ _).alloc (Nat.le_refl _) _)).trans (Alters.of_grown hgrowI)
        have hb35 := halI.boxed hst'.b3 hn3I
        have hbc5 := halI.boxed hbx hgdI
        have hg5 := (halI.block _ (Array.getElem?_eq_some_iff.1 hst'.rows.heap).1 hnGI).trans hst'.rows.heap
        have hc5 : w5.cell? ⟨w.heap.size + 1, k, none⟩ = some v1 := by unfold World.cell?; rw [hg5]; simpa using hv1
        have hf5 : w5.frozen? ⟨w.heap.size + 1, k, none⟩ = false := by unfold World.frozen?; rw [hg5]; simp
        refine hK.out _ _ ⟨hb35.cell, hbc5.cell⟩ (fun _ => ?_)
        clear hK K
        (try simp only [Act.put, List.setIfInBounds_toArray, List.set_cons_zero, List.set_cons_succ])
        refine wpAnyH_take (i := 9) (oi := { dst := some 27, op := Op.indexAddr 28 (Operand.tmp 18) (Operand.tmp 19), type := 0, pos := "step.go:68", after := #[{ on := 0, ground := Ground.data }, { on := 1, ground := Ground.data }, { on := 0, ground := Ground.phase }, { on := 1, ground := Ground.phase }, { on := 2, ground := Ground.phase }, { on := 3, ground := Ground.phase }, { on := 4, ground := Ground.phase }, { on := 5, ground := Ground.phase }, { on := 6, ground := Ground.phase }, { on := 7, ground := Ground.phase }, { on := 8, ground := Ground.phase }], guard := none }) (v := ?_) rfl (by kernel_rfl) (by kernel_rfl) (by kernel_rfl) (fun _ _ _ h => h) (Or.inl ⟨by rfl, ?_⟩) (by assumption) ?_
        rotate_left
        · ((intro w hSw; (try dsimp only at hSw); go_simp); try with_reducible rfl)
        (try simp only [Act.put, List.setIfInBounds_toArray, List.set_cons_zero, List.set_cons_succ])
        refine wpAnyH_ready (rs := [10]) (by kernel_rfl) (by simp) ?_
        refine AllReadyH.cons (o := { dst := none, op := Op.store 29 (Operand.tmp 27) (Operand.tmp 26), type := 0, pos := "step.go:68", after := #[{ on := 9, ground := Ground.data }, { on := 8, ground := Ground.data }, { on := 8, ground := Ground.chain }, { on := 0, ground := Ground.phase }, { on := 1, ground := Ground.phase }, { on := 2, ground := Ground.phase }, { on := 3, ground := Ground.phase }, { on := 4, ground := Ground.phase }, { on := 5, ground := Ground.phase }, { on := 6, ground := Ground.phase }, { on := 7, ground := Ground.phase }, { on := 8, ground := Ground.phase }], guard := none }) rfl (fun K hK => ?_) AllReadyH.nil
        go_simp
        refine hK.out _ _ ⟨?_, ?_⟩ (fun _ => ?_)
        · show (w5.setCell _ _).cell? _ = _
          rw [World.cell?_setCell_other _ _ _ _ (fun e => by have h := congrArg Addr.block e; dsimp only at h; omega)]; exact hb35.cell
        · show (w5.setCell _ _).cell? _ = _
          rw [World.cell?_setCell_other _ _ _ _ (fun e => by have h := congrArg Addr.block e; dsimp only at h; omega)]; exact hbc5.cell
        clear hK K
        (try simp only [Act.put, List.setIfInBounds_toArray, List.set_cons_zero, List.set_cons_succ])
        refine wpAnyH_done (by kernel_rfl) ?_ _
        have hs5 := halI.size
        obtain ⟨hstN, halN⟩ := JSt.add (x := ↑x) rfl (by decide) hst' (by have := hst'.below.size; omega) hv1 hown5 hgrowI hat5 (fun i hi => by
          rcases hat5 with h | h
          · exact hst'.rows.good v1 hmI i (by rw [h]; exact hi)
          · have hi' : i = g := by simpa [Value.ownBlock] using hi
            have h' : g = (X.alloc (.cells #[.int .i64 ↑x] 3)).heap.size := h
            rw [World.size_alloc] at h'
            right; omega)
        have hnc : ∀ (i : Nat) (o : Obj), X.heap[i]? = some o → o.isCells = false → (w5.setCell ⟨w.heap.size + 1, k, none⟩ (.slice (some ⟨g, 0, none⟩) ((rs[k]?.getD []).length + 1) cap)).heap[i]? = some o := fun i o ho hc => (halN.block i (Array.getElem?_eq_some_iff.1 ho).1 (by
          rintro (e | e)
          · rw [e, hst'.rows.heap] at ho; cases ho; cases hc
          · exact hst'.not_obj hmI ho hc e)).trans ho
        have hbxN := halN.boxed hbx (by
          rintro (e | e)
          · omega
          · exact hgdI e)
        have hkpN := halN.keep (P := fun i => i < N ∨ i = W.heap.size + 1 ∨ i = W.heap.size + 1 + 1) (fun i hi => ⟨by omega, by
          rintro (e | e)
          · omega
          · have h1 := (hst'.lt hmI e).1
            have h2 := hst'.rows.good v1 hmI i e
            omega⟩)
        have hkfN : KeepsFrom W2.heap.size X _ := ⟨halN.size, fun i o _ ho hc => hnc i o ho hc⟩
        have hszN := halN.size
        generalize w5.setCell ⟨w.heap.size + 1, k, none⟩ (.slice (some ⟨g, 0, none⟩) ((rs[k]?.getD []).length + 1) cap) = X5 at hstN halN hnc hbxN hkpN hkfN hszN ⊢
        have hDsN : ∀ D ∈ Ds, X5.heap[D]? = some (.deferred (some [])) := fun D hD => hnc D _ (hDsX D hD) rfl
        have hokN := addAt_ok hok k ↑x (by omega)
        have hst' := hstN
        have hbx := hbxN
        have hszX : W.heap.size + 3 ≤ X5.heap.size := Nat.le_trans hszX hszN
        have hDsX := hDsN
        have hok := hokN
        obtain ⟨v2, hv2, hcI, hfI⟩ := hst'.rows.cell (i := x) (by omega)
        have hokI := hok.at_ x
        have hownI : OwnInts w.heap.size X5 v2 ((addAt rs k ↑x)[x]?.getD []) := hst'.rows.own x v2 hv2
        have hmI := List.mem_of_getElem? hv2
        have hcb3 := hst'.b3.cell
        have hcbc := hbx.cell
        have hgdI : ¬ some W.heap.size = v2.ownBlock := fun e => by have := hst'.rows.good v2 hmI _ e; omega
        have hn3I : ¬ some (w.heap.size + 1 + 1) = v2.ownBlock := hst'.rows.not_own hv2 hst'.b3 (by decide)
        have hnGI : ¬ some (w.heap.size + 1) = v2.ownBlock := hst'.rows.not_own hv2 hst'.rows.heap (by decide)
        gi_wp2_with fail
        refine wpIn_region_round (S := fun w' => w'.cell? ⟨w.heap.size + 1 + 1, 0, none⟩ = some (.slice (some ⟨w.heap.size + 1, 0, none⟩) n n) ∧ w'.cell? ⟨W.heap.size, 0, none⟩ = some (.int .i64 k)) (by kernel_rfl) (nodefer (by rfl)) (fun ⟨_, _, h⟩ => h) ⟨hcb3, hcbc⟩ (fun hHeld => ?_)
        have hcI' : X5.drew.cell? ⟨w.heap.size + 1, x, none⟩ = some v2 := hcI
        refine wpAnyH_take (i := 0) (oi := { dst := some 28, op := Op.load 28 (Operand.tmp 3), type := 28, pos := "step.go:69", after := #[], guard := none }) (v := ?_) rfl (by kernel_rfl) (by kernel_rfl) (by kernel_rfl) (fun _ _ _ h => h) (Or.inl ⟨by rfl, ?_⟩) (by assumption) ?_
        rotate_left
        · ((intro w hSw; (try dsimp only at hSw); go_simp); try with_reducible rfl)
        (try simp only [Act.put, List.setIfInBounds_toArray, List.set_cons_zero, List.set_cons_succ])
        refine wpAnyH_take (i := 1) (oi := { dst := some 29, op := Op.move (Operand.tmp 5), type := 3, pos := "step.go:69", after := #[], guard := none }) (v := ?_) rfl (by kernel_rfl) (by kernel_rfl) (by kernel_rfl) (fun _ _ _ h => h) (Or.inl ⟨by rfl, ?_⟩) (by assumption) ?_
        rotate_left
        · ((intro w hSw; (try dsimp only at hSw); go_simp); try with_reducible rfl)
        (try simp only [Act.put, List.setIfInBounds_toArray, List.set_cons_zero, List.set_cons_succ])
        refine wpAnyH_take (i := 2) (oi := { dst := some 30, op := Op.load 28 (Operand.tmp 3), type := 28, pos := "step.go:69", after := #[], guard := none }) (v := ?_) rfl (by kernel_rfl) (by kernel_rfl) (by kernel_rfl) (fun _ _ _ h => h) (Or.inl ⟨by rfl, ?_⟩) (by assumption) ?_
        rotate_left
        · ((intro w hSw; (try dsimp only at hSw); go_simp); try with_reducible rfl)
        (try simp only [Act.put, List.setIfInBounds_toArray, List.set_cons_zero, List.set_cons_succ])
        refine wpAnyH_take (i := 3) (oi := { dst := some 31, op := Op.move (Operand.tmp 5), type := 3, pos := "step.go:69", after := #[], guard := none }) (v := ?_) rfl (by kernel_rfl) (by kernel_rfl) (by kernel_rfl) (fun _ _ _ h => h) (Or.inl ⟨by rfl, ?_⟩) (by assumption) ?_
        rotate_left
        · ((intro w hSw; (try dsimp only at hSw); go_simp); try with_reducible rfl)
        (try simp only [Act.put, List.setIfInBounds_toArray, List.set_cons_zero, List.set_cons_succ])
        refine wpAnyH_take (i := 4) (oi := { dst := some 32, op := Op.indexAddr 28 (Operand.tmp 30) (Operand.tmp 31), type := 0, pos := "step.go:69", after := #[{ on := 2, ground := Ground.data }, { on := 3, ground := Ground.data }], guard := none }) (v := ?_) rfl (by kernel_rfl) (by kernel_rfl) (by kernel_rfl) (fun _ _ _ h => h) (Or.inl ⟨by rfl, ?_⟩) (by assumption) ?_
        rotate_left
        · ((intro w hSw; (try dsimp only at hSw); go_simp); try with_reducible rfl)
        (try simp only [Act.put, List.setIfInBounds_toArray, List.set_cons_zero, List.set_cons_succ])
        refine wpAnyH_take (i := 6) (oi := { dst := some 34, op := Op.load 3 (Operand.tmp 4), type := 3, pos := "step.go:69", after := #[], guard := none }) (v := ?_) rfl (by kernel_rfl) (by kernel_rfl) (by kernel_rfl) (fun _ _ _ h => h) (Or.inl ⟨by rfl, ?_⟩) (by assumption) ?_
        rotate_left
        · ((intro w hSw; (try dsimp only at hSw); go_simp); try with_reducible rfl)
        (try simp only [Act.put, List.setIfInBounds_toArray, List.set_cons_zero, List.set_cons_succ])
        refine wpAnyH_ready (rs := [5, 7]) (by kernel_rfl) (by simp) ?_
        refine AllReadyH.cons (o := { dst := some 33, op := Op.load 29 (Operand.tmp 32), type := 29, pos := "step.go:69", after := #[{ on := 4, ground := Ground.data }], guard := none }) rfl (fun K hK => ?_) (AllReadyH.cons (o := { dst := some 35, op := Op.buildSlice 29 1 #[(0, Operand.tmp 34)], type := 29, pos := "step.go:69", after := #[{ on := 6, ground := Ground.data }], guard := none }) rfl (fun K hK => ?_) AllReadyH.nil)
        · go_simp
          refine hK.out _ _ hHeld (fun _ => ?_)
          clear hK K
          (try simp only [Act.put, List.setIfInBounds_toArray, List.set_cons_zero, List.set_cons_succ])
          refine wpAnyH_ready (rs := [7]) (by kernel_rfl) (by simp) ?_
          refine AllReadyH.cons (o := { dst := some 35, op := Op.buildSlice 29 1 #[(0, Operand.tmp 34)], type := 29, pos := "step.go:69", after := #[{ on := 6, ground := Ground.data }], guard := none }) rfl (fun K hK => ?_) AllReadyH.nil
          go_simp
          refine hK.out _ _ ⟨cell_alloc_keep hHeld.1 _, cell_alloc_keep hHeld.2 _⟩ (fun _ => ?_)
          clear hK K
          (try simp only [Act.put, List.setIfInBounds_toArray, List.set_cons_zero, List.set_cons_succ])
          refine wpAnyH_ready (rs := [8]) (by kernel_rfl) (by simp) ?_
          refine AllReadyH.cons (o := { dst := some 36, op := Op.call { callee := Callee.builtin Builtin.append, args := #[Operand.tmp 33, Operand.tmp 35], argTypes := #[29, 29] }, type := 29, pos := "step.go:69", after := #[{ on := 5, ground := Ground.data }, { on := 7, ground := Ground.data }], guard := none }) rfl (fun K hK => ?_) AllReadyH.nil
          refine step_append_at rfl _ _ rfl w.heap.size v2 ((addAt rs k ↑x)[x]?.getD []) rfl (World.ownsRow.alloc hownI _) (by omega) (by have := hst'.below.size; show _ ≤ (World.alloc _ _).heap.size; rw [World.size_alloc]; omega) ⟨X5.heap.size, 0, none⟩ ↑k rfl (cell_new_at _ _ _ _ _ _ rfl rfl) ?_
          intro g2 cap2 w6 hown5 hgrow6 hat5
          have hgrowI : (X5.alloc (.cells #[.int .i64 ↑k] 3)).grownBy w6 v2.ownBlock := ⟨hgrow6.os, hgrow6.tape, hgrow6.output, hgrow6.size, hgrow6.block⟩
          have halI : Alters (fun k => some k = v2.ownBlock) X5 w6 := (Alters.of_below ((Below.refl _ _).alloc (Nat.le_refl _) _)).trans (Alters.of_grown hgrowI)
          have hb35 := halI.boxed hst'.b3 hn3I
          have hbc5 := halI.boxed hbx hgdI
          have hg5 := (halI.block _ (Array.getElem?_eq_some_iff.1 hst'.rows.heap).1 hnGI).trans hst'.rows.heap
          have hc5 : w6.cell? ⟨w.heap.size + 1, x, none⟩ = some v2 := by unfold World.cell?; rw [hg5]; simpa using hv2
          have hf5 : w6.frozen? ⟨w.heap.size + 1, x, none⟩ = false := by unfold World.frozen?; rw [hg5]; simp
          refine hK.out _ _ ⟨hb35.cell, hbc5.cell⟩ (fun _ => ?_)
          clear hK K
          (try simp only [Act.put, List.setIfInBounds_toArray, List.set_cons_zero, List.set_cons_succ])
          refine wpAnyH_take (i := 9) (oi := { dst := some 37, op := Op.indexAddr 28 (Operand.tmp 28) (Operand.tmp 29), type := 0, pos := "step.go:69", after := #[{ on := 0, ground := Ground.data }, { on := 1, ground := Ground.data }, { on := 0, ground := Ground.phase }, { on := 1, ground := Ground.phase }, { on := 2, ground := Ground.phase }, { on := 3, ground := Ground.phase }, { on := 4, ground := Ground.phase }, { on := 5, ground := Ground.phase }, { on := 6, ground := Ground.phase }, { on := 7, ground := Ground.phase }, { on := 8, ground := Ground.phase }], guard := none }) (v := ?_) rfl (by kernel_rfl) (by kernel_rfl) (by kernel_rfl) (fun _ _ _ h => h) (Or.inl ⟨by rfl, ?_⟩) (by assumption) ?_
          rotate_left
          · ((intro w hSw; (try dsimp only at hSw); go_simp); try with_reducible rfl)
          (try simp only [Act.put, List.setIfInBounds_toArray, List.set_cons_zero, List.set_cons_succ])
          refine wpAnyH_ready (rs := [10]) (by kernel_rfl) (by simp) ?_
          refine AllReadyH.cons (o := { dst := none, op := Op.store 29 (Operand.tmp 37) (Operand.tmp 36), type := 0, pos := "step.go:69", after := #[{ on := 9, ground := Ground.data }, { on := 8, ground := Ground.data }, { on := 8, ground := Ground.chain }, { on := 0, ground := Ground.phase }, { on := 1, ground := Ground.phase }, { on := 2, ground := Ground.phase }, { on := 3, ground := Ground.phase }, { on := 4, ground := Ground.phase }, { on := 5, ground := Ground.phase }, { on := 6, ground := Ground.phase }, { on := 7, ground := Ground.phase }, { on := 8, ground := Ground.phase }], guard := none }) rfl (fun K hK => ?_) AllReadyH.nil
          go_simp
          refine hK.out _ _ ⟨?_, ?_⟩ (fun _ => ?_)
          · show (w6.setCell _ _).cell? _ = _
            rw [World.cell?_setCell_other _ _ _ _ (fun e => by have h := congrArg Addr.block e; dsimp only at h; omega)]; exact hb35.cell
          · show (w6.setCell _ _).cell? _ = _
            rw [World.cell?_setCell_other _ _ _ _ (fun e => by have h := congrArg Addr.block e; dsimp only at h; omega)]; exact hbc5.cell
          clear hK K
          (try simp only [Act.put, List.setIfInBounds_toArray, List.set_cons_zero, List.set_cons_succ])
          refine wpAnyH_done (by kernel_rfl) ?_ _
          have hs5 := halI.size
          obtain ⟨hstNb, halNb⟩ := JSt.add (x := ↑k) rfl (by decide) hst' (by have := hst'.below.size; omega) hv2 hown5 hgrowI hat5 (fun i hi => by
            rcases hat5 with h | h
            · exact hst'.rows.good v2 hmI i (by rw [h]; exact hi)
            · have hi' : i = g2 := by simpa [Value.ownBlock] using hi
              have h' : g2 = (X5.alloc (.cells #[.int .i64 ↑k] 3)).heap.size := h
              rw [World.size_alloc] at h'
              right; omega)
          have hncb : ∀ (i : Nat) (o : Obj), X5.heap[i]? = some o → o.isCells = false → (w6.setCell ⟨w.heap.size + 1, x, none⟩ (.slice (some ⟨g2, 0, none⟩) (((addAt rs k ↑x)[x]?.getD []).length + 1) cap2)).heap[i]? = some o := fun i o ho hc => (halNb.block i (Array.getElem?_eq_some_iff.1 ho).1 (by
            rintro (e | e)
            · rw [e, hst'.rows.heap] at ho; cases ho; cases hc
            · exact hst'.not_obj hmI ho hc e)).trans ho
          have hbxNb := halNb.boxed hbx (by
            rintro (e | e)
            · omega
            · exact hgdI e)
          have hkpNb := halNb.keep (P := fun i => i < N ∨ i = W.heap.size + 1 ∨ i = W.heap.size + 1 + 1) (fun i hi => ⟨by omega, by
            rintro (e | e)
            · omega
            · have h1 := (hst'.lt hmI e).1
              have h2 := hst'.rows.good v2 hmI i e
              omega⟩)
          have hkfNb : KeepsFrom W2.heap.size X5 _ := ⟨halNb.size, fun i o _ ho hc => hncb i o ho hc⟩
          have hszNb := halNb.size
          generalize w6.setCell ⟨w.heap.size + 1, x, none⟩ (.slice (some ⟨g2, 0, none⟩) (((addAt rs k ↑x)[x]?.getD []).length + 1) cap2) = X6 at hstNb halNb hncb hbxNb hkpNb hkfNb hszNb ⊢
          have hDsNb : ∀ D ∈ Ds, X6.heap[D]? = some (.deferred (some [])) := fun D hD => hncb D _ (hDsX D hD) rfl
          have hokNb := addAt_ok hok x ↑k (by omega)
          gi_wp2
          exact ⟨hkfN.trans hkfNb, hkpN.trans hkpNb, _, by rw [HF.out]; exact hstNb, hbxNb, Nat.le_trans hszX hszNb, hDsNb⟩
        · go_simp
          refine hK.out _ _ ⟨cell_alloc_keep hHeld.1 _, cell_alloc_keep hHeld.2 _⟩ (fun _ => ?_)
          clear hK K
          have hcI'' := cell_alloc_keep hcI (.cells #[.int .i64 ↑k] 3)
          (try simp only [Act.put, List.setIfInBounds_toArray, List.set_cons_zero, List.set_cons_succ])
          refine wpAnyH_ready (rs := [5]) (by kernel_rfl) (by simp) ?_
          refine AllReadyH.cons (o := { dst := some 33, op := Op.load 29 (Operand.tmp 32), type := 29, pos := "step.go:69", after := #[{ on := 4, ground := Ground.data }], guard := none }) rfl (fun K hK => ?_) AllReadyH.nil
          go_simp
          refine hK.out _ _ ⟨cell_alloc_keep hHeld.1 _, cell_alloc_keep hHeld.2 _⟩ (fun _ => ?_)
          clear hK K
          (try simp only [Act.put, List.setIfInBounds_toArray, List.set_cons_zero, List.set_cons_succ])
          refine wpAnyH_ready (rs := [8]) (by kernel_rfl) (by simp) ?_
          refine AllReadyH.cons (o := { dst := some 36, op := Op.call { callee := Callee.builtin Builtin.append, args := #[Operand.tmp 33, Operand.tmp 35], argTypes := #[29, 29] }, type := 29, pos := "step.go:69", after := #[{ on := 5, ground := Ground.data }, { on := 7, ground := Ground.data }], guard := none }) rfl (fun K hK => ?_) AllReadyH.nil
          refine step_append_at rfl _ _ rfl w.heap.size v2 ((addAt rs k ↑x)[x]?.getD []) rfl (World.ownsRow.alloc hownI _) (by omega) (by have := hst'.below.size; show _ ≤ (World.alloc _ _).heap.size; rw [World.size_alloc]; omega) ⟨X5.heap.size, 0, none⟩ ↑k rfl (cell_new_at _ _ _ _ _ _ rfl rfl) ?_
          intro g2 cap2 w6 hown5 hgrow6 hat5
          have hgrowI : (X5.alloc (.cells #[.int .i64 ↑k] 3)).grownBy w6 v2.ownBlock := ⟨hgrow6.os, hgrow6.tape, hgrow6.output, hgrow6.size, hgrow6.block⟩
          have halI : Alters (fun k => some k = v2.ownBlock) X5 w6 := (Alters.of_below ((Below.refl _ _).alloc (Nat.le_refl _) _)).trans (Alters.of_grown hgrowI)
          have hb35 := halI.boxed hst'.b3 hn3I
          have hbc5 := halI.boxed hbx hgdI
          have hg5 := (halI.block _ (Array.getElem?_eq_some_iff.1 hst'.rows.heap).1 hnGI).trans hst'.rows.heap
          have hc5 : w6.cell? ⟨w.heap.size + 1, x, none⟩ = some v2 := by unfold World.cell?; rw [hg5]; simpa using hv2
          have hf5 : w6.frozen? ⟨w.heap.size + 1, x, none⟩ = false := by unfold World.frozen?; rw [hg5]; simp
          refine hK.out _ _ ⟨hb35.cell, hbc5.cell⟩ (fun _ => ?_)
          clear hK K
          (try simp only [Act.put, List.setIfInBounds_toArray, List.set_cons_zero, List.set_cons_succ])
          refine wpAnyH_take (i := 9) (oi := { dst := some 37, op := Op.indexAddr 28 (Operand.tmp 28) (Operand.tmp 29), type := 0, pos := "step.go:69", after := #[{ on := 0, ground := Ground.data }, { on := 1, ground := Ground.data }, { on := 0, ground := Ground.phase }, { on := 1, ground := Ground.phase }, { on := 2, ground := Ground.phase }, { on := 3, ground := Ground.phase }, { on := 4, ground := Ground.phase }, { on := 5, ground := Ground.phase }, { on := 6, ground := Ground.phase }, { on := 7, ground := Ground.phase }, { on := 8, ground := Ground.phase }], guard := none }) (v := ?_) rfl (by kernel_rfl) (by kernel_rfl) (by kernel_rfl) (fun _ _ _ h => h) (Or.inl ⟨by rfl, ?_⟩) (by assumption) ?_
          rotate_left
          · ((intro w hSw; (try dsimp only at hSw); go_simp); try with_reducible rfl)
          (try simp only [Act.put, List.setIfInBounds_toArray, List.set_cons_zero, List.set_cons_succ])
          refine wpAnyH_ready (rs := [10]) (by kernel_rfl) (by simp) ?_
          refine AllReadyH.cons (o := { dst := none, op := Op.store 29 (Operand.tmp 37) (Operand.tmp 36), type := 0, pos := "step.go:69", after := #[{ on := 9, ground := Ground.data }, { on := 8, ground := Ground.data }, { on := 8, ground := Ground.chain }, { on := 0, ground := Ground.phase }, { on := 1, ground := Ground.phase }, { on := 2, ground := Ground.phase }, { on := 3, ground := Ground.phase }, { on := 4, ground := Ground.phase }, { on := 5, ground := Ground.phase }, { on := 6, ground := Ground.phase }, { on := 7, ground := Ground.phase }, { on := 8, ground := Ground.phase }], guard := none }) rfl (fun K hK => ?_) AllReadyH.nil
          go_simp
          refine hK.out _ _ ⟨?_, ?_⟩ (fun _ => ?_)
          · show (w6.setCell _ _).cell? _ = _
            rw [World.cell?_setCell_other _ _ _ _ (fun e => by have h := congrArg Addr.block e; dsimp only at h; omega)]; exact hb35.cell
          · show (w6.setCell _ _).cell? _ = _
            rw [World.cell?_setCell_other _ _ _ _ (fun e => by have h := congrArg Addr.block e; dsimp only at h; omega)]; exact hbc5.cell
          clear hK K
          (try simp only [Act.put, List.setIfInBounds_toArray, List.set_cons_zero, List.set_cons_succ])
          refine wpAnyH_done (by kernel_rfl) ?_ _
          have hs5 := halI.size
          obtain ⟨hstNb, halNb⟩ := JSt.add (x := ↑k) rfl (by decide) hst' (by have := hst'.below.size; omega) hv2 hown5 hgrowI hat5 (fun i hi => by
            rcases hat5 with h | h
            · exact hst'.rows.good v2 hmI i (by rw [h]; exact hi)
            · have hi' : i = g2 := by simpa [Value.ownBlock] using hi
              have h' : g2 = (X5.alloc (.cells #[.int .i64 ↑k] 3)).heap.size := h
              rw [World.size_alloc] at h'
              right; omega)
          have hncb : ∀ (i : Nat) (o : Obj), X5.heap[i]? = some o → o.isCells = false → (w6.setCell ⟨w.heap.size + 1, x, none⟩ (.slice (some ⟨g2, 0, none⟩) (((addAt rs k ↑x)[x]?.getD []).length + 1) cap2)).heap[i]? = some o := fun i o ho hc => (halNb.block i (Array.getElem?_eq_some_iff.1 ho).1 (by
            rintro (e | e)
            · rw [e, hst'.rows.heap] at ho; cases ho; cases hc
            · exact hst'.not_obj hmI ho hc e)).trans ho
          have hbxNb := halNb.boxed hbx (by
            rintro (e | e)
            · omega
            · exact hgdI e)
          have hkpNb := halNb.keep (P := fun i => i < N ∨ i = W.heap.size + 1 ∨ i = W.heap.size + 1 + 1) (fun i hi => ⟨by omega, by
            rintro (e | e)
            · omega
            · have h1 := (hst'.lt hmI e).1
              have h2 := hst'.rows.good v2 hmI i e
              omega⟩)
          have hkfNb : KeepsFrom W2.heap.size X5 _ := ⟨halNb.size, fun i o _ ho hc => hncb i o ho hc⟩
          have hszNb := halNb.size
          generalize w6.setCell ⟨w.heap.size + 1, x, none⟩ (.slice (some ⟨g2, 0, none⟩) (((addAt rs k ↑x)[x]?.getD []).length + 1) cap2) = X6 at hstNb halNb hncb hbxNb hkpNb hkfNb hszNb ⊢
          have hDsNb : ∀ D ∈ Ds, X6.heap[D]? = some (.deferred (some [])) := fun D hD => hncb D _ (hDsX D hD) rfl
          have hokNb := addAt_ok hok x ↑k (by omega)
          gi_wp2
          exact ⟨hkfN.trans hkfNb, hkpN.trans hkpNb, _, by rw [HF.out]; exact hstNb, hbxNb, Nat.le_trans hszX hszNb, hDsNb⟩
      · go_simp
        refine hK.out _ _ ⟨cell_alloc_keep hHeld.1 _, cell_alloc_keep hHeld.2 _⟩ (fun _ => ?_)
        clear hK K
        have hcI'' := cell_alloc_keep hcI (.cells #[.int .i64 ↑x] 3)
        (try simp only [Act.put, List.setIfInBounds_toArray, List.set_cons_zero, List.set_cons_succ])
        refine wpAnyH_ready (rs := [5]) (by kernel_rfl) (by simp) ?_
        refine AllReadyH.cons (o := { dst := some 23, op := Op.load 29 (Operand.tmp 22), type := 29, pos := "step.go:68", after := #[{ on := 4, ground := Ground.data }], guard := none }) rfl (fun K hK => ?_) AllReadyH.nil
        go_simp
        refine hK.out _ _ ⟨cell_alloc_keep hHeld.1 _, cell_alloc_keep hHeld.2 _⟩ (fun _ => ?_)
        clear hK K
        (try simp only [Act.put, List.setIfInBounds_toArray, List.set_cons_zero, List.set_cons_succ])
        refine wpAnyH_ready (rs := [8]) (by kernel_rfl) (by simp) ?_
        refine AllReadyH.cons (o := { dst := some 26, op := Op.call { callee := Callee.builtin Builtin.append, args := #[Operand.tmp 23, Operand.tmp 25], argTypes := #[29, 29] }, type := 29, pos := "step.go:68", after := #[{ on := 5, ground := Ground.data }, { on := 7, ground := Ground.data }], guard := none }) rfl (fun K hK => ?_) AllReadyH.nil
        refine step_append_at rfl _ _ rfl w.heap.size v1 (rs[k]?.getD []) rfl (World.ownsRow.alloc hownI _) (by omega) (by have := hst'.below.size; show _ ≤ (World.alloc _ _).heap.size; rw [World.size_alloc]; omega) ⟨X.heap.size, 0, none⟩ ↑x rfl (cell_new_at _ _ _ _ _ _ rfl rfl) ?_
        intro g cap w5 hown5 hgrow5 hat5
        have hgrowI : (X.alloc (.cells #[.int .i64 ↑x] 3)).grownBy w5 v1.ownBlock := ⟨hgrow5.os, hgrow5.tape, hgrow5.output, hgrow5.size, hgrow5.block⟩
        have halI : Alters (fun k => some k = v1.ownBlock) X w5 := (Alters.of_below ((Below.refl _ _).alloc (Nat.le_refl _) _)).trans (Alters.of_grown hgrowI)
        have hb35 := halI.boxed hst'.b3 hn3I
        have hbc5 := halI.boxed hbx hgdI
        have hg5 := (halI.block _ (Array.getElem?_eq_some_iff.1 hst'.rows.heap).1 hnGI).trans hst'.rows.heap
        have hc5 : w5.cell? ⟨w.heap.size + 1, k, none⟩ = some v1 := by unfold World.cell?; rw [hg5]; simpa using hv1
        have hf5 : w5.frozen? ⟨w.heap.size + 1, k, none⟩ = false := by unfold World.frozen?; rw [hg5]; simp
        refine hK.out _ _ ⟨hb35.cell, hbc5.cell⟩ (fun _ => ?_)
        clear hK K
        (try simp only [Act.put, List.setIfInBounds_toArray, List.set_cons_zero, List.set_cons_succ])
        refine wpAnyH_take (i := 9) (oi := { dst := some 27, op := Op.indexAddr 28 (Operand.tmp 18) (Operand.tmp 19), type := 0, pos := "step.go:68", after := #[{ on := 0, ground := Ground.data }, { on := 1, ground := Ground.data }, { on := 0, ground := Ground.phase }, { on := 1, ground := Ground.phase }, { on := 2, ground := Ground.phase }, { on := 3, ground := Ground.phase }, { on := 4, ground := Ground.phase }, { on := 5, ground := Ground.phase }, { on := 6, ground := Ground.phase }, { on := 7, ground := Ground.phase }, { on := 8, ground := Ground.phase }], guard := none }) (v := ?_) rfl (by kernel_rfl) (by kernel_rfl) (by kernel_rfl) (fun _ _ _ h => h) (Or.inl ⟨by rfl, ?_⟩) (by assumption) ?_
        rotate_left
        · ((intro w hSw; (try dsimp only at hSw); go_simp); try with_reducible rfl)
        (try simp only [Act.put, List.setIfInBounds_toArray, List.set_cons_zero, List.set_cons_succ])
        refine wpAnyH_ready (rs := [10]) (by kernel_rfl) (by simp) ?_
        refine AllReadyH.cons (o := { dst := none, op := Op.store 29 (Operand.tmp 27) (Operand.tmp 26), type := 0, pos := "step.go:68", after := #[{ on := 9, ground := Ground.data }, { on := 8, ground := Ground.data }, { on := 8, ground := Ground.chain }, { on := 0, ground := Ground.phase }, { on := 1, ground := Ground.phase }, { on := 2, ground := Ground.phase }, { on := 3, ground := Ground.phase }, { on := 4, ground := Ground.phase }, { on := 5, ground := Ground.phase }, { on := 6, ground := Ground.phase }, { on := 7, ground := Ground.phase }, { on := 8, ground := Ground.phase }], guard := none }) rfl (fun K hK => ?_) AllReadyH.nil
        go_simp
        refine hK.out _ _ ⟨?_, ?_⟩ (fun _ => ?_)
        · show (w5.setCell _ _).cell? _ = _
          rw [World.cell?_setCell_other _ _ _ _ (fun e => by have h := congrArg Addr.block e; dsimp only at h; omega)]; exact hb35.cell
        · show (w5.setCell _ _).cell? _ = _
          rw [World.cell?_setCell_other _ _ _ _ (fun e => by have h := congrArg Addr.block e; dsimp only at h; omega)]; exact hbc5.cell
        clear hK K
        (try simp only [Act.put, List.setIfInBounds_toArray, List.set_cons_zero, List.set_cons_succ])
        refine wpAnyH_done (by kernel_rfl) ?_ _
        have hs5 := halI.size
        obtain ⟨hstN, halN⟩ := JSt.add (x := ↑x) rfl (by decide) hst' (by have := hst'.below.size; omega) hv1 hown5 hgrowI hat5 (fun i hi => by
          rcases hat5 with h | h
          · exact hst'.rows.good v1 hmI i (by rw [h]; exact hi)
          · have hi' : i = g := by simpa [Value.ownBlock] using hi
            have h' : g = (X.alloc (.cells #[.int .i64 ↑x] 3)).heap.size := h
            rw [World.size_alloc] at h'
            right; omega)
        have hnc : ∀ (i : Nat) (o : Obj), X.heap[i]? = some o → o.isCells = false → (w5.setCell ⟨w.heap.size + 1, k, none⟩ (.slice (some ⟨g, 0, none⟩) ((rs[k]?.getD []).length + 1) cap)).heap[i]? = some o := fun i o ho hc => (halN.block i (Array.getElem?_eq_some_iff.1 ho).1 (by
          rintro (e | e)
          · rw [e, hst'.rows.heap] at ho; cases ho; cases hc
          · exact hst'.not_obj hmI ho hc e)).trans ho
        have hbxN := halN.boxed hbx (by
          rintro (e | e)
          · omega
          · exact hgdI e)
        have hkpN := halN.keep (P := fun i => i < N ∨ i = W.heap.size + 1 ∨ i = W.heap.size + 1 + 1) (fun i hi => ⟨by omega, by
          rintro (e | e)
          · omega
          · have h1 := (hst'.lt hmI e).1
            have h2 := hst'.rows.good v1 hmI i e
            omega⟩)
        have hkfN : KeepsFrom W2.heap.size X _ := ⟨halN.size, fun i o _ ho hc => hnc i o ho hc⟩
        have hszN := halN.size
        generalize w5.setCell ⟨w.heap.size + 1, k, none⟩ (.slice (some ⟨g, 0, none⟩) ((rs[k]?.getD []).length + 1) cap) = X5 at hstN halN hnc hbxN hkpN hkfN hszN ⊢
        have hDsN : ∀ D ∈ Ds, X5.heap[D]? = some (.deferred (some [])) := fun D hD => hnc D _ (hDsX D hD) rfl
        have hokN := addAt_ok hok k ↑x (by omega)
        have hst' := hstN
        have hbx := hbxN
        have hszX : W.heap.size + 3 ≤ X5.heap.size := Nat.le_trans hszX hszN
        have hDsX := hDsN
        have hok := hokN
        obtain ⟨v2, hv2, hcI, hfI⟩ := hst'.rows.cell (i := x) (by omega)
        have hokI := hok.at_ x
        have hownI : OwnInts w.heap.size X5 v2 ((addAt rs k ↑x)[x]?.getD []) := hst'.rows.own x v2 hv2
        have hmI := List.mem_of_getElem? hv2
        have hcb3 := hst'.b3.cell
        have hcbc := hbx.cell
        have hgdI : ¬ some W.heap.size = v2.ownBlock := fun e => by have := hst'.rows.good v2 hmI _ e; omega
        have hn3I : ¬ some (w.heap.size + 1 + 1) = v2.ownBlock := hst'.rows.not_own hv2 hst'.b3 (by decide)
        have hnGI : ¬ some (w.heap.size + 1) = v2.ownBlock := hst'.rows.not_own hv2 hst'.rows.heap (by decide)
        gi_wp2_with fail
        refine wpIn_region_round (S := fun w' => w'.cell? ⟨w.heap.size + 1 + 1, 0, none⟩ = some (.slice (some ⟨w.heap.size + 1, 0, none⟩) n n) ∧ w'.cell? ⟨W.heap.size, 0, none⟩ = some (.int .i64 k)) (by kernel_rfl) (nodefer (by rfl)) (fun ⟨_, _, h⟩ => h) ⟨hcb3, hcbc⟩ (fun hHeld => ?_)
        have hcI' : X5.drew.cell? ⟨w.heap.size + 1, x, none⟩ = some v2 := hcI
        refine wpAnyH_take (i := 0) (oi := { dst := some 28, op := Op.load 28 (Operand.tmp 3), type := 28, pos := "step.go:69", after := #[], guard := none }) (v := ?_) rfl (by kernel_rfl) (by kernel_rfl) (by kernel_rfl) (fun _ _ _ h => h) (Or.inl ⟨by rfl, ?_⟩) (by assumption) ?_
        rotate_left
        · ((intro w hSw; (try dsimp only at hSw); go_simp); try with_reducible rfl)
        (try simp only [Act.put, List.setIfInBounds_toArray, List.set_cons_zero, List.set_cons_succ])
        refine wpAnyH_take (i := 1) (oi := { dst := some 29, op := Op.move (Operand.tmp 5), type := 3, pos := "step.go:69", after := #[], guard := none }) (v := ?_) rfl (by kernel_rfl) (by kernel_rfl) (by kernel_rfl) (fun _ _ _ h => h) (Or.inl ⟨by rfl, ?_⟩) (by assumption) ?_
        rotate_left
        · ((intro w hSw; (try dsimp only at hSw); go_simp); try with_reducible rfl)
        (try simp only [Act.put, List.setIfInBounds_toArray, List.set_cons_zero, List.set_cons_succ])
        refine wpAnyH_take (i := 2) (oi := { dst := some 30, op := Op.load 28 (Operand.tmp 3), type := 28, pos := "step.go:69", after := #[], guard := none }) (v := ?_) rfl (by kernel_rfl) (by kernel_rfl) (by kernel_rfl) (fun _ _ _ h => h) (Or.inl ⟨by rfl, ?_⟩) (by assumption) ?_
        rotate_left
        · ((intro w hSw; (try dsimp only at hSw); go_simp); try with_reducible rfl)
        (try simp only [Act.put, List.setIfInBounds_toArray, List.set_cons_zero, List.set_cons_succ])
        refine wpAnyH_take (i := 3) (oi := { dst := some 31, op := Op.move (Operand.tmp 5), type := 3, pos := "step.go:69", after := #[], guard := none }) (v := ?_) rfl (by kernel_rfl) (by kernel_rfl) (by kernel_rfl) (fun _ _ _ h => h) (Or.inl ⟨by rfl, ?_⟩) (by assumption) ?_
        rotate_left
        · ((intro w hSw; (try dsimp only at hSw); go_simp); try with_reducible rfl)
        (try simp only [Act.put, List.setIfInBounds_toArray, List.set_cons_zero, List.set_cons_succ])
        refine wpAnyH_take (i := 4) (oi := { dst := some 32, op := Op.indexAddr 28 (Operand.tmp 30) (Operand.tmp 31), type := 0, pos := "step.go:69", after := #[{ on := 2, ground := Ground.data }, { on := 3, ground := Ground.data }], guard := none }) (v := ?_) rfl (by kernel_rfl) (by kernel_rfl) (by kernel_rfl) (fun _ _ _ h => h) (Or.inl ⟨by rfl, ?_⟩) (by assumption) ?_
        rotate_left
        · ((intro w hSw; (try dsimp only at hSw); go_simp); try with_reducible rfl)
        (try simp only [Act.put, List.setIfInBounds_toArray, List.set_cons_zero, List.set_cons_succ])
        refine wpAnyH_take (i := 6) (oi := { dst := some 34, op := Op.load 3 (Operand.tmp 4), type := 3, pos := "step.go:69", after := #[], guard := none }) (v := ?_) rfl (by kernel_rfl) (by kernel_rfl) (by kernel_rfl) (fun _ _ _ h => h) (Or.inl ⟨by rfl, ?_⟩) (by assumption) ?_
        rotate_left
        · ((intro w hSw; (try dsimp only at hSw); go_simp); try with_reducible rfl)
        (try simp only [Act.put, List.setIfInBounds_toArray, List.set_cons_zero, List.set_cons_succ])
        refine wpAnyH_ready (rs := [5, 7]) (by kernel_rfl) (by simp) ?_
        refine AllReadyH.cons (o := { dst := some 33, op := Op.load 29 (Operand.tmp 32), type := 29, pos := "step.go:69", after := #[{ on := 4, ground := Ground.data }], guard := none }) rfl (fun K hK => ?_) (AllReadyH.cons (o := { dst := some 35, op := Op.buildSlice 29 1 #[(0, Operand.tmp 34)], type := 29, pos := "step.go:69", after := #[{ on := 6, ground := Ground.data }], guard := none }) rfl (fun K hK => ?_) AllReadyH.nil)
        · go_simp
          refine hK.out _ _ hHeld (fun _ => ?_)
          clear hK K
          (try simp only [Act.put, List.setIfInBounds_toArray, List.set_cons_zero, List.set_cons_succ])
          refine wpAnyH_ready (rs := [7]) (by kernel_rfl) (by simp) ?_
          refine AllReadyH.cons (o := { dst := some 35, op := Op.buildSlice 29 1 #[(0, Operand.tmp 34)], type := 29, pos := "step.go:69", after := #[{ on := 6, ground := Ground.data }], guard := none }) rfl (fun K hK => ?_) AllReadyH.nil
          go_simp
          refine hK.out _ _ ⟨cell_alloc_keep hHeld.1 _, cell_alloc_keep hHeld.2 _⟩ (fun _ => ?_)
          clear hK K
          (try simp only [Act.put, List.setIfInBounds_toArray, List.set_cons_zero, List.set_cons_succ])
          refine wpAnyH_ready (rs := [8]) (by kernel_rfl) (by simp) ?_
          refine AllReadyH.cons (o := { dst := some 36, op := Op.call { callee := Callee.builtin Builtin.append, args := #[Operand.tmp 33, Operand.tmp 35], argTypes := #[29, 29] }, type := 29, pos := "step.go:69", after := #[{ on := 5, ground := Ground.data }, { on := 7, ground := Ground.data }], guard := none }) rfl (fun K hK => ?_) AllReadyH.nil
          refine step_append_at rfl _ _ rfl w.heap.size v2 ((addAt rs k ↑x)[x]?.getD []) rfl (World.ownsRow.alloc hownI _) (by omega) (by have := hst'.below.size; show _ ≤ (World.alloc _ _).heap.size; rw [World.size_alloc]; omega) ⟨X5.heap.size, 0, none⟩ ↑k rfl (cell_new_at _ _ _ _ _ _ rfl rfl) ?_
          intro g2 cap2 w6 hown5 hgrow6 hat5
          have hgrowI : (X5.alloc (.cells #[.int .i64 ↑k] 3)).grownBy w6 v2.ownBlock := ⟨hgrow6.os, hgrow6.tape, hgrow6.output, hgrow6.size, hgrow6.block⟩
          have halI : Alters (fun k => some k = v2.ownBlock) X5 w6 := (Alters.of_below ((Below.refl _ _).alloc (Nat.le_refl _) _)).trans (Alters.of_grown hgrowI)
          have hb35 := halI.boxed hst'.b3 hn3I
          have hbc5 := halI.boxed hbx hgdI
          have hg5 := (halI.block _ (Array.getElem?_eq_some_iff.1 hst'.rows.heap).1 hnGI).trans hst'.rows.heap
          have hc5 : w6.cell? ⟨w.heap.size + 1, x, none⟩ = some v2 := by unfold World.cell?; rw [hg5]; simpa using hv2
          have hf5 : w6.frozen? ⟨w.heap.size + 1, x, none⟩ = false := by unfold World.frozen?; rw [hg5]; simp
          refine hK.out _ _ ⟨hb35.cell, hbc5.cell⟩ (fun _ => ?_)
          clear hK K
          (try simp only [Act.put, List.setIfInBounds_toArray, List.set_cons_zero, List.set_cons_succ])
          refine wpAnyH_take (i := 9) (oi := { dst := some 37, op := Op.indexAddr 28 (Operand.tmp 28) (Operand.tmp 29), type := 0, pos := "step.go:69", after := #[{ on := 0, ground := Ground.data }, { on := 1, ground := Ground.data }, { on := 0, ground := Ground.phase }, { on := 1, ground := Ground.phase }, { on := 2, ground := Ground.phase }, { on := 3, ground := Ground.phase }, { on := 4, ground := Ground.phase }, { on := 5, ground := Ground.phase }, { on := 6, ground := Ground.phase }, { on := 7, ground := Ground.phase }, { on := 8, ground := Ground.phase }], guard := none }) (v := ?_) rfl (by kernel_rfl) (by kernel_rfl) (by kernel_rfl) (fun _ _ _ h => h) (Or.inl ⟨by rfl, ?_⟩) (by assumption) ?_
          rotate_left
          · ((intro w hSw; (try dsimp only at hSw); go_simp); try with_reducible rfl)
          (try simp only [Act.put, List.setIfInBounds_toArray, List.set_cons_zero, List.set_cons_succ])
          refine wpAnyH_ready (rs := [10]) (by kernel_rfl) (by simp) ?_
          refine AllReadyH.cons (o := { dst := none, op := Op.store 29 (Operand.tmp 37) (Operand.tmp 36), type := 0, pos := "step.go:69", after := #[{ on := 9, ground := Ground.data }, { on := 8, ground := Ground.data }, { on := 8, ground := Ground.chain }, { on := 0, ground := Ground.phase }, { on := 1, ground := Ground.phase }, { on := 2, ground := Ground.phase }, { on := 3, ground := Ground.phase }, { on := 4, ground := Ground.phase }, { on := 5, ground := Ground.phase }, { on := 6, ground := Ground.phase }, { on := 7, ground := Ground.phase }, { on := 8, ground := Ground.phase }], guard := none }) rfl (fun K hK => ?_) AllReadyH.nil
          go_simp
          refine hK.out _ _ ⟨?_, ?_⟩ (fun _ => ?_)
          · show (w6.setCell _ _).cell? _ = _
            rw [World.cell?_setCell_other _ _ _ _ (fun e => by have h := congrArg Addr.block e; dsimp only at h; omega)]; exact hb35.cell
          · show (w6.setCell _ _).cell? _ = _
            rw [World.cell?_setCell_other _ _ _ _ (fun e => by have h := congrArg Addr.block e; dsimp only at h; omega)]; exact hbc5.cell
          clear hK K
          (try simp only [Act.put, List.setIfInBounds_toArray, List.set_cons_zero, List.set_cons_succ])
          refine wpAnyH_done (by kernel_rfl) ?_ _
          have hs5 := halI.size
          obtain ⟨hstNb, halNb⟩ := JSt.add (x := ↑k) rfl (by decide) hst' (by have := hst'.below.size; omega) hv2 hown5 hgrowI hat5 (fun i hi => by
            rcases hat5 with h | h
            · exact hst'.rows.good v2 hmI i (by rw [h]; exact hi)
            · have hi' : i = g2 := by simpa [Value.ownBlock] using hi
              have h' : g2 = (X5.alloc (.cells #[.int .i64 ↑k] 3)).heap.size := h
              rw [World.size_alloc] at h'
              right; omega)
          have hncb : ∀ (i : Nat) (o : Obj), X5.heap[i]? = some o → o.isCells = false → (w6.setCell ⟨w.heap.size + 1, x, none⟩ (.slice (some ⟨g2, 0, none⟩) (((addAt rs k ↑x)[x]?.getD []).length + 1) cap2)).heap[i]? = some o := fun i o ho hc => (halNb.block i (Array.getElem?_eq_some_iff.1 ho).1 (by
            rintro (e | e)
            · rw [e, hst'.rows.heap] at ho; cases ho; cases hc
            · exact hst'.not_obj hmI ho hc e)).trans ho
          have hbxNb := halNb.boxed hbx (by
            rintro (e | e)
            · omega
            · exact hgdI e)
          have hkpNb := halNb.keep (P := fun i => i < N ∨ i = W.heap.size + 1 ∨ i = W.heap.size + 1 + 1) (fun i hi => ⟨by omega, by
            rintro (e | e)
            · omega
            · have h1 := (hst'.lt hmI e).1
              have h2 := hst'.rows.good v2 hmI i e
              omega⟩)
          have hkfNb : KeepsFrom W2.heap.size X5 _ := ⟨halNb.size, fun i o _ ho hc => hncb i o ho hc⟩
          have hszNb := halNb.size
          generalize w6.setCell ⟨w.heap.size + 1, x, none⟩ (.slice (some ⟨g2, 0, none⟩) (((addAt rs k ↑x)[x]?.getD []).length + 1) cap2) = X6 at hstNb halNb hncb hbxNb hkpNb hkfNb hszNb ⊢
          have hDsNb : ∀ D ∈ Ds, X6.heap[D]? = some (.deferred (some [])) := fun D hD => hncb D _ (hDsX D hD) rfl
          have hokNb := addAt_ok hok x ↑k (by omega)
          gi_wp2
          exact ⟨hkfN.trans hkfNb, hkpN.trans hkpNb, _, by rw [HF.out]; exact hstNb, hbxNb, Nat.le_trans hszX hszNb, hDsNb⟩
        · go_simp
          refine hK.out _ _ ⟨cell_alloc_keep hHeld.1 _, cell_alloc_keep hHeld.2 _⟩ (fun _ => ?_)
          clear hK K
          have hcI'' := cell_alloc_keep hcI (.cells #[.int .i64 ↑k] 3)
          (try simp only [Act.put, List.setIfInBounds_toArray, List.set_cons_zero, List.set_cons_succ])
          refine wpAnyH_ready (rs := [5]) (by kernel_rfl) (by simp) ?_
          refine AllReadyH.cons (o := { dst := some 33, op := Op.load 29 (Operand.tmp 32), type := 29, pos := "step.go:69", after := #[{ on := 4, ground := Ground.data }], guard := none }) rfl (fun K hK => ?_) AllReadyH.nil
          go_simp
          refine hK.out _ _ ⟨cell_alloc_keep hHeld.1 _, cell_alloc_keep hHeld.2 _⟩ (fun _ => ?_)
          clear hK K
          (try simp only [Act.put, List.setIfInBounds_toArray, List.set_cons_zero, List.set_cons_succ])
          refine wpAnyH_ready (rs := [8]) (by kernel_rfl) (by simp) ?_
          refine AllReadyH.cons (o := { dst := some 36, op := Op.call { callee := Callee.builtin Builtin.append, args := #[Operand.tmp 33, Operand.tmp 35], argTypes := #[29, 29] }, type := 29, pos := "step.go:69", after := #[{ on := 5, ground := Ground.data }, { on := 7, ground := Ground.data }], guard := none }) rfl (fun K hK => ?_) AllReadyH.nil
          refine step_append_at rfl _ _ rfl w.heap.size v2 ((addAt rs k ↑x)[x]?.getD []) rfl (World.ownsRow.alloc hownI _) (by omega) (by have := hst'.below.size; show _ ≤ (World.alloc _ _).heap.size; rw [World.size_alloc]; omega) ⟨X5.heap.size, 0, none⟩ ↑k rfl (cell_new_at _ _ _ _ _ _ rfl rfl) ?_
          intro g2 cap2 w6 hown5 hgrow6 hat5
          have hgrowI : (X5.alloc (.cells #[.int .i64 ↑k] 3)).grownBy w6 v2.ownBlock := ⟨hgrow6.os, hgrow6.tape, hgrow6.output, hgrow6.size, hgrow6.block⟩
          have halI : Alters (fun k => some k = v2.ownBlock) X5 w6 := (Alters.of_below ((Below.refl _ _).alloc (Nat.le_refl _) _)).trans (Alters.of_grown hgrowI)
          have hb35 := halI.boxed hst'.b3 hn3I
          have hbc5 := halI.boxed hbx hgdI
          have hg5 := (halI.block _ (Array.getElem?_eq_some_iff.1 hst'.rows.heap).1 hnGI).trans hst'.rows.heap
          have hc5 : w6.cell? ⟨w.heap.size + 1, x, none⟩ = some v2 := by unfold World.cell?; rw [hg5]; simpa using hv2
          have hf5 : w6.frozen? ⟨w.heap.size + 1, x, none⟩ = false := by unfold World.frozen?; rw [hg5]; simp
          refine hK.out _ _ ⟨hb35.cell, hbc5.cell⟩ (fun _ => ?_)
          clear hK K
          (try simp only [Act.put, List.setIfInBounds_toArray, List.set_cons_zero, List.set_cons_succ])
          refine wpAnyH_take (i := 9) (oi := { dst := some 37, op := Op.indexAddr 28 (Operand.tmp 28) (Operand.tmp 29), type := 0, pos := "step.go:69", after := #[{ on := 0, ground := Ground.data }, { on := 1, ground := Ground.data }, { on := 0, ground := Ground.phase }, { on := 1, ground := Ground.phase }, { on := 2, ground := Ground.phase }, { on := 3, ground := Ground.phase }, { on := 4, ground := Ground.phase }, { on := 5, ground := Ground.phase }, { on := 6, ground := Ground.phase }, { on := 7, ground := Ground.phase }, { on := 8, ground := Ground.phase }], guard := none }) (v := ?_) rfl (by kernel_rfl) (by kernel_rfl) (by kernel_rfl) (fun _ _ _ h => h) (Or.inl ⟨by rfl, ?_⟩) (by assumption) ?_
          rotate_left
          · ((intro w hSw; (try dsimp only at hSw); go_simp); try with_reducible rfl)
          (try simp only [Act.put, List.setIfInBounds_toArray, List.set_cons_zero, List.set_cons_succ])
          refine wpAnyH_ready (rs := [10]) (by kernel_rfl) (by simp) ?_
          refine AllReadyH.cons (o := { dst := none, op := Op.store 29 (Operand.tmp 37) (Operand.tmp 36), type := 0, pos := "step.go:69", after := #[{ on := 9, ground := Ground.data }, { on := 8, ground := Ground.data }, { on := 8, ground := Ground.chain }, { on := 0, ground := Ground.phase }, { on := 1, ground := Ground.phase }, { on := 2, ground := Ground.phase }, { on := 3, ground := Ground.phase }, { on := 4, ground := Ground.phase }, { on := 5, ground := Ground.phase }, { on := 6, ground := Ground.phase }, { on := 7, ground := Ground.phase }, { on := 8, ground := Ground.phase }], guard := none }) rfl (fun K hK => ?_) AllReadyH.nil
          go_simp
          refine hK.out _ _ ⟨?_, ?_⟩ (fun _ => ?_)
          · show (w6.setCell _ _).cell? _ = _
            rw [World.cell?_setCell_other _ _ _ _ (fun e => by have h := congrArg Addr.block e; dsimp only at h; omega)]; exact hb35.cell
          · show (w6.setCell _ _).cell? _ = _
            rw [World.cell?_setCell_other _ _ _ _ (fun e => by have h := congrArg Addr.block e; dsimp only at h; omega)]; exact hbc5.cell
          clear hK K
          (try simp only [Act.put, List.setIfInBounds_toArray, List.set_cons_zero, List.set_cons_succ])
          refine wpAnyH_done (by kernel_rfl) ?_ _
          have hs5 := halI.size
          obtain ⟨hstNb, halNb⟩ := JSt.add (x := ↑k) rfl (by decide) hst' (by have := hst'.below.size; omega) hv2 hown5 hgrowI hat5 (fun i hi => by
            rcases hat5 with h | h
            · exact hst'.rows.good v2 hmI i (by rw [h]; exact hi)
            · have hi' : i = g2 := by simpa [Value.ownBlock] using hi
              have h' : g2 = (X5.alloc (.cells #[.int .i64 ↑k] 3)).heap.size := h
              rw [World.size_alloc] at h'
              right; omega)
          have hncb : ∀ (i : Nat) (o : Obj), X5.heap[i]? = some o → o.isCells = false → (w6.setCell ⟨w.heap.size + 1, x, none⟩ (.slice (some ⟨g2, 0, none⟩) (((addAt rs k ↑x)[x]?.getD []).length + 1) cap2)).heap[i]? = some o := fun i o ho hc => (halNb.block i (Array.getElem?_eq_some_iff.1 ho).1 (by
            rintro (e | e)
            · rw [e, hst'.rows.heap] at ho; cases ho; cases hc
            · exact hst'.not_obj hmI ho hc e)).trans ho
          have hbxNb := halNb.boxed hbx (by
            rintro (e | e)
            · omega
            · exact hgdI e)
          have hkpNb := halNb.keep (P := fun i => i < N ∨ i = W.heap.size + 1 ∨ i = W.heap.size + 1 + 1) (fun i hi => ⟨by omega, by
            rintro (e | e)
            · omega
            · have h1 := (hst'.lt hmI e).1
              have h2 := hst'.rows.good v2 hmI i e
              omega⟩)
          have hkfNb : KeepsFrom W2.heap.size X5 _ := ⟨halNb.size, fun i o _ ho hc => hncb i o ho hc⟩
          have hszNb := halNb.size
          generalize w6.setCell ⟨w.heap.size + 1, x, none⟩ (.slice (some ⟨g2, 0, none⟩) (((addAt rs k ↑x)[x]?.getD []).length + 1) cap2) = X6 at hstNb halNb hncb hbxNb hkpNb hkfNb hszNb ⊢
          have hDsNb : ∀ D ∈ Ds, X6.heap[D]? = some (.deferred (some [])) := fun D hD => hncb D _ (hDsX D hD) rfl
          have hokNb := addAt_ok hok x ↑k (by omega)
          gi_wp2
          exact ⟨hkfN.trans hkfNb, hkpN.trans hkpNb, _, by rw [HF.out]; exact hstNb, hbxNb, Nat.le_trans hszX hszNb, hDsNb⟩
    case done =>
      rintro D ys X hD hys ⟨vs', hst', hbx, hszX, hDsX⟩ hK
      rw [hys] at hst'
      have hke : (stepsS B k).foldl (joinStep k) (joinTo B n k) = joinTo B n (k + 1) := rfl
      rw [hke] at hst'
      have HJ := Lib.hid hst'
      clear hst' hst hst2 hst0
      gi_wp2
      refine ⟨j - 1, by omega, k + 1, D :: Ds, vs', _, _, _, _, _, _, _, _, _, _, _, _, _, _, _, _, _, _, _, _, _, _, _, _, _, _, _, _, _, _, rfl, by omega, HJ.out.mono (fun _ _ => trivial), by omega, List.nodup_cons.2 ⟨fun h => ?_, hnd⟩, fun D' hD' => ?_⟩
      · have := (Array.getElem?_eq_some_iff.1 (hDs2 D h)).1; omega
      · rcases List.mem_cons.1 hD' with rfl | h
        · exact ⟨by omega, hK⟩
        · exact ⟨(hDs D' h).1, hDsX D' h⟩
    case stop =>
      rintro D c pre X _ _ h _
      exact h.elim
  · obtain rfl : k = n := by omega
    gi_wp2
    refine leaves_marks Ds W hnd (fun D hD => (hDs D hD).2) (fun W' hW' => ?_)
    have hst' := hst.alters hW' (by omega) (fun k hk => by have := (hDs k hk).1; omega) (fun k hk v hv => hst.not_obj hv (hDs k hk).2 rfl)
    exact ⟨_, results_tmp rfl _ _ _, w.heap.size + 1 + 1, w.heap.size + 1, _, vs, rfl, hst'.b3, hst'.rows, hst'.below, by omega, by omega⟩
end Go.Proofs.YtcpjkilnbhfpjaaDoor
