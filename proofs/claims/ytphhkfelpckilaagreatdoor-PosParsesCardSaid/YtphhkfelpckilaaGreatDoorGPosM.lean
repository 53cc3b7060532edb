/-
  The positions of the reference: what is put in, and what comes out, as data; a new row of zeros in a drawn region.
  Made of the reference for positions.
-/
import Derived.Test.YtphhkfelpckilaaGreatDoorDValid
import Derived.Test.YtphhkfelpckilaaGreatDoorDCount
import Derived.Test.YtphhkfelpckilaaGreatDoorDRead
import Derived.Test.YtphhkfelpckilaaGreatDoorPush
import Derived.OwnWalk
namespace Go.Proofs.YtphhkfelpckilaaGreatDoor
open Go Go.RowKit

structure PRaw where
  cell : Nat → Nat
  kind : Nat → Nat
  hand : Nat → Nat
  rights : Nat
  side : Nat
structure PRaw.Ok (x : PRaw) : Prop where
  cell : ∀ i, x.cell i ≤ 255
  kind : ∀ i, x.kind i ≤ 255
  hand : ∀ i, x.hand i ≤ 255
  rights : x.rights ≤ 255
  side : x.side ≤ 255
def PRaw.cells (x : PRaw) : Array Value :=
  #[.int .u8 (x.cell 0), .int .u8 (x.cell 1), .int .u8 (x.cell 2), .int .u8 (x.cell 3), .int .u8 (x.cell 4), .int .u8 (x.cell 5),
    .int .u8 (x.kind 0), .int .u8 (x.kind 1), .int .u8 (x.kind 2), .int .u8 (x.kind 3), .int .u8 (x.kind 4), .int .u8 (x.kind 5),
    .int .u8 (x.hand 0), .int .u8 (x.hand 1), .int .u8 (x.hand 2), .int .u8 (x.hand 3), .int .u8 x.rights, .int .u8 x.side]
theorem PRaw.get_cell (x : PRaw) (i : Nat) (h : i < 6) : x.cells[i]? = some (.int .u8 (x.cell i)) := by
  rcases (show i = 0 ∨ i = 1 ∨ i = 2 ∨ i = 3 ∨ i = 4 ∨ i = 5 by omega) with rfl | rfl | rfl | rfl | rfl | rfl <;> rfl
theorem PRaw.get_kind (x : PRaw) (i : Nat) (h : i < 6) : x.cells[6 + i]? = some (.int .u8 (x.kind i)) := by
  rcases (show i = 0 ∨ i = 1 ∨ i = 2 ∨ i = 3 ∨ i = 4 ∨ i = 5 by omega) with rfl | rfl | rfl | rfl | rfl | rfl <;> rfl
theorem PRaw.get_hand (x : PRaw) (i : Nat) (h : i < 4) : x.cells[12 + i]? = some (.int .u8 (x.hand i)) := by
  rcases (show i = 0 ∨ i = 1 ∨ i = 2 ∨ i = 3 by omega) with rfl | rfl | rfl | rfl <;> rfl

def atStep (bc nk : Nat) (x : PRaw) (l : List Int) (i : Nat) : List Int :=
  if x.cell i % (bc + 1) < bc then l.set (x.cell i % (bc + 1)) (1 + 2 * (x.kind i % nk : Nat) + (i % 2 : Nat)) else l
def atTo (bc nk : Nat) (x : PRaw) : Nat → List Int
  | 0 => List.replicate bc 0
  | n + 1 => atStep bc nk x (atTo bc nk x n) n
theorem atTo_len (bc nk : Nat) (x : PRaw) : ∀ n, (atTo bc nk x n).length = bc
  | 0 => by simp [atTo]
  | n + 1 => by
    unfold atTo atStep
    split <;> simp [atTo_len bc nk x n]
def handV (x : PRaw) (s k : Nat) : Int := if x.hand (2 * s + k) > 250 then 8 else (x.hand (2 * s + k) % 3 : Nat)
def handTo (ks : List Bool) (x : PRaw) (s n : Nat) : List Int := (List.range ks.length).map fun k => if k < n ∧ ks[k]?.getD false = true then handV x s k else 0
theorem handTo_len (ks : List Bool) (x : PRaw) (s n : Nat) : (handTo ks x s n).length = ks.length := by simp [handTo]
theorem handTo_zero (ks : List Bool) (x : PRaw) (s : Nat) : handTo ks x s 0 = List.replicate ks.length 0 := by
  unfold handTo
  apply List.ext_getElem <;> simp
theorem handTo_no (ks : List Bool) (x : PRaw) (s n : Nat) (h : ks[n]?.getD false = false) : handTo ks x s (n + 1) = handTo ks x s n := by
  unfold handTo
  apply List.map_congr_left
  intro k _
  by_cases e : k = n
  · subst e; simp [h]
  · by_cases hk : k < n
    · simp [hk, show k < n + 1 by omega]
    · simp [hk, show ¬ k < n + 1 by omega]
theorem handTo_yes (ks : List Bool) (x : PRaw) (s n : Nat) (h : ks[n]?.getD false = true) : handTo ks x s (n + 1) = (handTo ks x s n).set n (handV x s n) := by
  unfold handTo
  apply List.ext_getElem
  · simp
  · intro k h1 h2
    simp only [List.length_map, List.length_range] at h1
    simp only [List.getElem_map, List.getElem_range, List.getElem_set]
    by_cases e : n = k
    · subst e; simp [h]
    · rw [if_neg e]
      by_cases hk : k < n
      · simp [hk, show k < n + 1 by omega]
      · simp [hk, show ¬ k < n + 1 by omega]
def madeP (bc r : Nat) (ks : List Bool) (x : PRaw) : PosS where
  cells := atTo bc ks.length x 6
  h0 := handTo ks x 0 ks.length
  h1 := handTo ks x 1 ks.length
  rights := (x.rights % 2 ^ r : Nat)
  side := (x.side % 2 : Nat)

theorem info_intP : (Tryz.prog.info? 3).map (fun i => (i.zero, i.size, i.bytes)) = some (some (.int .i64 0), 1, 8) := by kernel_rfl
def zerosA (n : Nat) : Array Value := ((List.replicate n (0 : Int)).map (Value.int .i64)).toArray
theorem made_zeros (n : Nat) : madeCells (Value.int .i64 0).cells (n * 1) = zerosA n := by
  unfold zerosA
  apply Array.ext'
  apply List.ext_getElem
  · simp [madeCells]
  · intro i h1 h2
    simp only [madeCells, Array.toList_map, Array.toList_range, List.getElem_map, List.getElem_range, List.map_replicate, List.getElem_replicate]
    show (#[Value.int .i64 0] : Array Value)[i % 1]! = _
    rw [Nat.mod_one]; rfl
theorem step_zeros {w : World} {ops : Array Oper} {o : Oper} {a : Act} {K : Act → World → Prop} {Q : Exit → Act → World → Prop} {X : Prop} (hgd : o.guard = none) (l c : Operand) (ho : o.op = .makeSlice 29 l c)
    (n : Nat) (hn : n ≤ 1000) (hl : a.eval l = .int .i64 n) (hc : a.eval c = .int .i64 n) (hK : K (a.put o.dst (.slice (some ⟨w.heap.size, 0, none⟩) n n)) (w.alloc (.cells (zerosA n) 3))) :
    if Region.wanted o (yielded ops a.tmps) = true then Oper.wp Tryz.prog o a w K Q else X := by
  have hw : Region.wanted o (yielded ops a.tmps) = true := by simp [Region.wanted, hgd]
  rw [if_pos hw]
  obtain ⟨i0, hi, hz0, hz1, hz2⟩ := info_parts info_intP
  have hr := run_make (P := Tryz.prog) w 29 3 i0 (.int .i64 0) Tryz.underlying29 hi hz0 .i64 .i64 n n (by omega) (Int.le_refl _) (by rw [hz2]; omega) (by omega)
  rw [hz1, Int.toNat_natCast, made_zeros] at hr
  unfold Oper.wp
  simp [execOp, ho, hl, hc, hr, Result.andThen]
  exact hK
theorem wpList_zeros {w : World} {ops : Array Oper} {rest : List Oper} {o : Oper} {a : Act} {Q : Exit → Act → World → Prop} (hgd : o.guard = none) (l c : Operand) (ho : o.op = .makeSlice 29 l c)
    (n : Nat) (hn : n ≤ 1000) (hl : a.eval l = .int .i64 n) (hc : a.eval c = .int .i64 n) (hK : wpList Tryz.prog ops Q rest (a.put o.dst (.slice (some ⟨w.heap.size, 0, none⟩) n n)) (w.alloc (.cells (zerosA n) 3))) : wpList Tryz.prog ops Q (o :: rest) a w :=
  wpList_plain hgd fun K hK' => by
    have h2 := step_zeros (w := w) (ops := ops) (Q := Q) (K := K) (X := True) hgd l c ho n hn hl hc (hK' _ _ hK)
    rw [if_pos (by simp [Region.wanted, hgd])] at h2
    exact h2
theorem own_zeros {h n B : Nat} {W : World} (hB : W.heap[B]? = some (.cells (zerosA n) 3 (0, 0))) (hh : h ≤ B) (hn : n ≤ 1000) : OwnInts h W (.slice (some ⟨B, 0, none⟩) n n) (List.replicate n 0) := by
  have hz : (zerosA n).size = n := by simp [zerosA]
  refine ⟨by simp, .inr ⟨B, n, zerosA n, by simp, hh, hB, by simp, by unfold maxLen; omega, by rw [hz]; simp, ?_⟩⟩
  simp [zerosA]
end Go.Proofs.YtphhkfelpckilaaGreatDoor

namespace Go.Proofs.YtphhkfelpckilaaGreatDoor
open Go Go.RowKit

def HandSt (h A nk : Nat) (W : World) (ks : List Bool) (x : PRaw) (s : Nat) (v0 v1 : Value) : Prop :=
  (s = 0 ∧ v0 = .slice none 0 0 ∧ v1 = .slice none 0 0) ∨
  (s = 1 ∧ v1 = .slice none 0 0 ∧ ∃ B0, v0 = .slice (some ⟨B0, 0, none⟩) nk nk ∧ OwnInts h W (.slice (some ⟨B0, 0, none⟩) nk nk) (handTo ks x 0 nk) ∧ ¬ A = B0) ∨
  (s = 2 ∧ ∃ B0 B1, v0 = .slice (some ⟨B0, 0, none⟩) nk nk ∧ v1 = .slice (some ⟨B1, 0, none⟩) nk nk ∧ OwnInts h W (.slice (some ⟨B0, 0, none⟩) nk nk) (handTo ks x 0 nk) ∧ OwnInts h W (.slice (some ⟨B1, 0, none⟩) nk nk) (handTo ks x 1 nk) ∧ ¬ A = B0 ∧ ¬ A = B1 ∧ ¬ B0 = B1)
theorem own_lt {h : Nat} {W : World} {g k c : Nat} {l : List Int} (ho : OwnInts h W (.slice (some ⟨g, 0, none⟩) k c) l) : h ≤ g ∧ g < W.heap.size := World.ownsRow.lt ho g rfl
theorem own_alt {h : Nat} {W W' : World} {g k c B : Nat} {l : List Int} (ho : OwnInts h W (.slice (some ⟨g, 0, none⟩) k c) l) (ha : Alters (fun b => b = B) W W') (hne : ¬ g = B) : OwnInts h W' (.slice (some ⟨g, 0, none⟩) k c) l :=
  ho.alters ha (fun k hk e => by simp only [Value.ownBlock, Option.some.injEq] at e; omega)
theorem own_ne {h : Nat} {W : World} {g k c P : Nat} {l : List Int} {cs : Array Value} (ho : OwnInts h W (.slice (some ⟨g, 0, none⟩) k c) l) (hP : W.heap[P]? = some (.cells cs 32 (0, 0))) : ¬ g = P := fun e => by
  subst e
  rcases ho.2 with ⟨h0, _⟩ | ⟨g', cap, cur, hv, _, hc, _⟩
  · cases h0
  · cases hv; rw [hP] at hc; simp at hc
theorem own_alt2 {h : Nat} {W W' : World} {g k c B B' : Nat} {l : List Int} (ho : OwnInts h W (.slice (some ⟨g, 0, none⟩) k c) l) (ha : Alters (fun b => b = B ∨ b = B') W W') (hne : ¬ g = B) (hne' : ¬ g = B') : OwnInts h W' (.slice (some ⟨g, 0, none⟩) k c) l :=
  ho.alters ha (fun k hk e => by simp only [Value.ownBlock, Option.some.injEq] at e; omega)
theorem HandSt.next {h A nk P s : Nat} {W3 W6 : World} {ks : List Bool} {x : PRaw} {v0 v1 a : Value} {r d : Int} {cs : Array Value} (hHS : HandSt h A nk W3 ks x s v0 v1) (hs : s < 2) (al : Alters (fun b => b = P ∨ b = W3.heap.size) W3 W6)
    (hP : W3.heap[P]? = some (.cells cs 32 (0, 0))) (hA : A < W3.heap.size) (hO : OwnInts h W6 (.slice (some ⟨W3.heap.size, 0, none⟩) nk nk) (handTo ks x s nk)) :
    ∃ u0 u1, (#[a, v0, v1, .int .i64 r, .int .i64 d] : Array Value).setIfInBounds (1 + s) (.slice (some ⟨W3.heap.size, 0, none⟩) nk nk) = #[a, u0, u1, .int .i64 r, .int .i64 d] ∧ HandSt h A nk W6 ks x (s + 1) u0 u1 := by
  rcases hHS with ⟨rfl, rfl, rfl⟩ | ⟨rfl, rfl, B0, rfl, h0, hne⟩ | ⟨rfl, _⟩
  · exact ⟨_, _, rfl, .inr (.inl ⟨rfl, rfl, _, rfl, hO, by omega⟩)⟩
  · have hlt := (own_lt h0).2
    have h0' := own_alt2 h0 al (own_ne h0 hP) (by omega)
    exact ⟨_, _, rfl, .inr (.inr ⟨rfl, _, _, rfl, rfl, h0', hO, hne, by omega, by omega⟩)⟩
  · omega
theorem Alters.drew_2 {S : Nat → Prop} {W W' : World} (h : Alters S W W') : Alters S W W'.drew := ⟨h.os, h.tape, h.output, h.size, h.block⟩
theorem OwnInts.drew_ {h : Nat} {W : World} {v : Value} {l : List Int} (ho : OwnInts h W v l) : OwnInts h W.drew v l := ho
theorem u8_id (x : Nat) (h : x ≤ 255) : IntKind.u8.wrap (x : Int) = (x : Int) := by unfold IntKind.wrap; simp [IntKind.bits, IntKind.signed]; omega
theorem i64_id (x : Nat) (h : x ≤ 1000) : IntKind.i64.wrap (x : Int) = (x : Int) := IntWalk.i64_in _ (by omega)
theorem hp_new_at (W : World) (o : Obj) {b : Nat} (hb : b = W.heap.size) : (W.alloc o).heap[b]? = some o := by subst hb; exact World.alloc_heap_new W o
theorem hp_old_at {W : World} {o o' : Obj} {b : Nat} (h : W.heap[b]? = some o') : (W.alloc o).heap[b]? = some o' := (Below.heap_alloc _ _ _ (bx_lt h)).trans h
set_option maxRecDepth 100000 in
set_option maxHeartbeats 4000000 in
theorem madeP_any (bc r : Nat) (ks : List Bool) (vn vt vm vc vb ve : Value) (ak : Option Addr) (ck N : Nat) (x : PRaw) (w : World) (hbc : 1 ≤ bc ∧ bc ≤ 9) (hr : r ≤ 2) (hks : 1 ≤ ks.length ∧ ks.length ≤ 2) (hx : x.Ok) (hN : N ≤ w.heap.size) (hK : Keeps N w ak ks) :
    Calls Tryz.prog 33 #[.agg #[.int .i64 (bc : Int), vn, vt, .slice ak ks.length ck, .int .i64 (r : Int), vm, vc, vb, ve], .agg x.cells] w fun e w' =>
      ∃ A B0 B1 c c0 c1, e = .returned (PosV (some ⟨A, 0, none⟩) (some ⟨B0, 0, none⟩) (some ⟨B1, 0, none⟩) c c0 c1 (madeP bc r ks x)) ∧ PosOwn w.heap.size w' (some ⟨A, 0, none⟩) (some ⟨B0, 0, none⟩) (some ⟨B1, 0, none⟩) c c0 c1 (madeP bc r ks x) ∧ (¬ A = B0 ∧ ¬ A = B1 ∧ ¬ B0 = B1) ∧ Below w.heap.size w w' := by
  have hG0 : (((w.alloc (.cells #[.int .i64 (bc : Int), vn, vt, .slice ak ks.length ck, .int .i64 (r : Int), vm, vc, vb, ve] 41)).alloc (.cells x.cells 61)).alloc (.cells #[.slice none 0 0, .slice none 0 0, .slice none 0 0, .int .i64 0, .int .i64 0] 32)).heap[w.heap.size]? = some (.cells #[.int .i64 (bc : Int), vn, vt, .slice ak ks.length ck, .int .i64 (r : Int), vm, vc, vb, ve] 41 (0, 0)) :=
    (Below.heap_alloc _ _ _ (by simp only [World.size_alloc]; omega)).trans ((Below.heap_alloc _ _ _ (by simp)).trans (World.alloc_heap_new _ _))
  have hR0 : (((w.alloc (.cells #[.int .i64 (bc : Int), vn, vt, .slice ak ks.length ck, .int .i64 (r : Int), vm, vc, vb, ve] 41)).alloc (.cells x.cells 61)).alloc (.cells #[.slice none 0 0, .slice none 0 0, .slice none 0 0, .int .i64 0, .int .i64 0] 32)).heap[w.heap.size + 1]? = some (.cells x.cells 61 (0, 0)) := by
    refine (Below.heap_alloc _ _ _ (by simp)).trans ?_
    have := World.alloc_heap_new (w.alloc (.cells #[.int .i64 (bc : Int), vn, vt, .slice ak ks.length ck, .int .i64 (r : Int), vm, vc, vb, ve] 41)) (.cells x.cells 61)
    rwa [World.size_alloc] at this
  have hZ0 : (((w.alloc (.cells #[.int .i64 (bc : Int), vn, vt, .slice ak ks.length ck, .int .i64 (r : Int), vm, vc, vb, ve] 41)).alloc (.cells x.cells 61)).alloc (.cells #[.slice none 0 0, .slice none 0 0, .slice none 0 0, .int .i64 0, .int .i64 0] 32)).heap[w.heap.size + 1 + 1]? = some (.cells #[.slice none 0 0, .slice none 0 0, .slice none 0 0, .int .i64 0, .int .i64 0] 32 (0, 0)) := by
    have := World.alloc_heap_new ((w.alloc (.cells #[.int .i64 (bc : Int), vn, vt, .slice ak ks.length ck, .int .i64 (r : Int), vm, vc, vb, ve] 41)).alloc (.cells x.cells 61)) (.cells #[.slice none 0 0, .slice none 0 0, .slice none 0 0, .int .i64 0, .int .i64 0] 32)
    rwa [World.size_alloc, World.size_alloc] at this
  have hb0 : Below w.heap.size w (((w.alloc (.cells #[.int .i64 (bc : Int), vn, vt, .slice ak ks.length ck, .int .i64 (r : Int), vm, vc, vb, ve] 41)).alloc (.cells x.cells 61)).alloc (.cells #[.slice none 0 0, .slice none 0 0, .slice none 0 0, .int .i64 0, .int .i64 0] 32)) := below_alloc (below_alloc (below_alloc (Below.refl _ _) _) _) _
  have hs0 : (((w.alloc (.cells #[.int .i64 (bc : Int), vn, vt, .slice ak ks.length ck, .int .i64 (r : Int), vm, vc, vb, ve] 41)).alloc (.cells x.cells 61)).alloc (.cells #[.slice none 0 0, .slice none 0 0, .slice none 0 0, .int .i64 0, .int .i64 0] 32)).heap.size = w.heap.size + 1 + 1 + 1 := by simp
  unfold PRaw.cells at *
  go_enter Tryz.func33, Tryz.ntmps33
  go_upto_region 1 with (fail)
  generalize ((w.alloc (.cells #[.int .i64 (bc : Int), vn, vt, .slice ak ks.length ck, .int .i64 (r : Int), vm, vc, vb, ve] 41)).alloc (.cells #[.int .u8 (x.cell 0), .int .u8 (x.cell 1), .int .u8 (x.cell 2), .int .u8 (x.cell 3), .int .u8 (x.cell 4), .int .u8 (x.cell 5), .int .u8 (x.kind 0), .int .u8 (x.kind 1), .int .u8 (x.kind 2), .int .u8 (x.kind 3), .int .u8 (x.kind 4), .int .u8 (x.kind 5), .int .u8 (x.hand 0), .int .u8 (x.hand 1), .int .u8 (x.hand 2), .int .u8 (x.hand 3), .int .u8 x.rights, .int .u8 x.side] 61)).alloc (.cells #[.slice none 0 0, .slice none 0 0, .slice none 0 0, .int .i64 0, .int .i64 0] 32) = w0 at *
  have g0 := bx_cell hG0 0 rfl
  have g3 : w0.cell? ⟨w.heap.size, 3, none⟩ = some (.slice ak ks.length ck) := bx_cell hG0 3 rfl
  have g4 : w0.cell? ⟨w.heap.size, 4, none⟩ = some (.int .i64 (r : Int)) := bx_cell hG0 4 rfl
  have r16 : w0.cell? ⟨w.heap.size + 1, 16, none⟩ = some (.int .u8 x.rights) := bx_cell hR0 16 rfl
  have r17 : w0.cell? ⟨w.heap.size + 1, 17, none⟩ = some (.int .u8 x.side) := bx_cell hR0 17 rfl
  go_cut [5] (fun s5 wy => ∃ (P A : Nat), s5 = .pointer (some ⟨P, 0, none⟩) ∧ wy.heap[P]? = some (.cells #[.slice (some ⟨A, 0, none⟩) bc bc, .slice none 0 0, .slice none 0 0, .int .i64 ((x.rights % 2 ^ r : Nat) : Int), .int .i64 ((x.side % 2 : Nat) : Int)] 32 (0, 0)) ∧ wy.heap[A]? = some (.cells (zerosA bc) 3 (0, 0)) ∧ w0.heap.size ≤ P ∧ w0.heap.size ≤ A ∧ Below w0.heap.size w0 wy)
  case first =>
    have hside := hx.side
    have hrig := hx.rights
    have e2 : ((x.side : Nat) : Int).tmod 2 = ((x.side % 2 : Nat) : Int) := rfl
    have l2 := Nat.mod_lt x.side (show 0 < 2 by omega)
    have hbc9 : bc ≤ 9 := hbc.2
    generalize x.side % 2 = zs at *
    have i2 := u8_id zs (by omega)
    have i3 := i64_id zs (by omega)
    rcases (show r = 0 ∨ r = 1 ∨ r = 2 by omega) with rfl | rfl | rfl
    · skip
      have hM : x.rights % 2 ^ 0 = x.rights % 1 := rfl
      have HM := Lib.hid hM
      clear hM
      have e1 : ((x.rights : Nat) : Int).tmod 1 = ((x.rights % 1 : Nat) : Int) := rfl
      have l1 := Nat.mod_lt x.rights (show 0 < 1 by omega)
      generalize x.rights % 1 = zr at *
      have i1 := i64_id zr (by omega)
      have i0 := i64_id x.rights (by omega)
      have iw : IntKind.i64.wrap 1 = 1 := rfl
      refine wp_region_held_drew (S := fun W => W.cell? ⟨w.heap.size, 0, none⟩ = some (.int .i64 (bc : Int)) ∧ W.cell? ⟨w.heap.size, 4, none⟩ = some (.int .i64 0) ∧ W.cell? ⟨w.heap.size + 1, 16, none⟩ = some (.int .u8 x.rights) ∧ W.cell? ⟨w.heap.size + 1, 17, none⟩ = some (.int .u8 x.side)) (by kernel_rfl) ⟨g0, g4, r16, r17⟩ (fun hHeld => ?_)
      refine wpAnyH_take (i := 0) (oi := { dst := some 10, op := Op.fieldAddr 41 (Operand.tmp 2) 0, type := 0, pos := "ref.go:267", after := #[], guard := none }) (v := ?_) rfl (by kernel_rfl) (by kernel_rfl) (by kernel_rfl) (fun _ _ _ h => h) (Or.inl ⟨by rfl, ?_⟩) (by assumption) ?_
      rotate_left
      · ((intro w hSw; (try dsimp only at hSw); go_simp); try with_reducible rfl)
      (try simp only [Act.put, List.setIfInBounds_toArray, List.set_cons_zero, List.set_cons_succ])
      refine wpAnyH_take (i := 1) (oi := { dst := some 11, op := Op.fieldAddr 37 (Operand.tmp 10) 0, type := 0, pos := "ref.go:267", after := #[{ on := 0, ground := Ground.data }], guard := none }) (v := ?_) rfl (by kernel_rfl) (by kernel_rfl) (by kernel_rfl) (fun _ _ _ h => h) (Or.inl ⟨by rfl, ?_⟩) (by assumption) ?_
      rotate_left
      · ((intro w hSw; (try dsimp only at hSw); go_simp); try with_reducible rfl)
      (try simp only [Act.put, List.setIfInBounds_toArray, List.set_cons_zero, List.set_cons_succ])
      refine wpAnyH_take (i := 2) (oi := { dst := some 12, op := Op.load 3 (Operand.tmp 11), type := 3, pos := "ref.go:267", after := #[{ on := 1, ground := Ground.data }], guard := none }) (v := ?_) rfl (by kernel_rfl) (by kernel_rfl) (by kernel_rfl) (fun _ _ _ h => h) (Or.inl ⟨by rfl, ?_⟩) (by assumption) ?_
      rotate_left
      · ((intro w hSw; (try dsimp only at hSw); go_simp); try with_reducible rfl)
      (try simp only [Act.put, List.setIfInBounds_toArray, List.set_cons_zero, List.set_cons_succ])
      refine wpAnyH_take (i := 4) (oi := { dst := some 14, op := Op.fieldAddr 61 (Operand.tmp 3) 3, type := 0, pos := "ref.go:267", after := #[], guard := none }) (v := ?_) rfl (by kernel_rfl) (by kernel_rfl) (by kernel_rfl) (fun _ _ _ h => h) (Or.inl ⟨by rfl, ?_⟩) (by assumption) ?_
      rotate_left
      · ((intro w hSw; (try dsimp only at hSw); go_simp); try with_reducible rfl)
      (try simp only [Act.put, List.setIfInBounds_toArray, List.set_cons_zero, List.set_cons_succ])
      refine wpAnyH_take (i := 5) (oi := { dst := some 15, op := Op.load 5 (Operand.tmp 14), type := 5, pos := "ref.go:267", after := #[{ on := 4, ground := Ground.data }], guard := none }) (v := ?_) rfl (by kernel_rfl) (by kernel_rfl) (by kernel_rfl) (fun _ _ _ h => h) (Or.inl ⟨by rfl, ?_⟩) (by assumption) ?_
      rotate_left
      · ((intro w hSw; (try dsimp only at hSw); go_simp); try with_reducible rfl)
      (try simp only [Act.put, List.setIfInBounds_toArray, List.set_cons_zero, List.set_cons_succ])
      refine wpAnyH_take (i := 6) (oi := { dst := some 16, op := Op.convert 5 3 (Operand.tmp 15), type := 3, pos := "ref.go:267", after := #[{ on := 5, ground := Ground.data }], guard := none }) (v := ?_) rfl (by kernel_rfl) (by kernel_rfl) (by kernel_rfl) (fun _ _ _ h => h) (Or.inl ⟨by rfl, ?_⟩) (by assumption) ?_
      rotate_left
      · ((intro w hSw; (try dsimp only at hSw); go_simp); try with_reducible rfl)
      (try simp only [Act.put, List.setIfInBounds_toArray, List.set_cons_zero, List.set_cons_succ])
      refine wpAnyH_take (i := 7) (oi := { dst := some 17, op := Op.fieldAddr 41 (Operand.tmp 2) 2, type := 0, pos := "ref.go:267", after := #[], guard := none }) (v := ?_) rfl (by kernel_rfl) (by kernel_rfl) (by kernel_rfl) (fun _ _ _ h => h) (Or.inl ⟨by rfl, ?_⟩) (by assumption) ?_
      rotate_left
      · ((intro w hSw; (try dsimp only at hSw); go_simp); try with_reducible rfl)
      (try simp only [Act.put, List.setIfInBounds_toArray, List.set_cons_zero, List.set_cons_succ])
      refine wpAnyH_take (i := 8) (oi := { dst := some 18, op := Op.load 3 (Operand.tmp 17), type := 3, pos := "ref.go:267", after := #[{ on := 7, ground := Ground.data }], guard := none }) (v := ?_) rfl (by kernel_rfl) (by kernel_rfl) (by kernel_rfl) (fun _ _ _ h => h) (Or.inl ⟨by rfl, ?_⟩) (by assumption) ?_
      rotate_left
      · ((intro w hSw; (try dsimp only at hSw); go_simp); try with_reducible rfl)
      (try simp only [Act.put, List.setIfInBounds_toArray, List.set_cons_zero, List.set_cons_succ])
      refine wpAnyH_take (i := 9) (oi := { dst := some 19, op := Op.binOp BinOp.shl 3 (Operand.const (Value.int IntKind.i64 1)) (Operand.tmp 18) 3, type := 3, pos := "ref.go:267", after := #[{ on := 8, ground := Ground.data }], guard := none }) (v := ?_) rfl (by kernel_rfl) (by kernel_rfl) (by kernel_rfl) (fun _ _ _ h => h) (Or.inl ⟨by rfl, ?_⟩) (by assumption) ?_
      rotate_left
      · ((intro w hSw; (try dsimp only at hSw); go_simp); try with_reducible rfl)
      (try simp only [Act.put, List.setIfInBounds_toArray, List.set_cons_zero, List.set_cons_succ])
      refine wpAnyH_take (i := 10) (oi := { dst := some 20, op := Op.binOp BinOp.rem 3 (Operand.tmp 16) (Operand.tmp 19) 3, type := 3, pos := "ref.go:267", after := #[{ on := 6, ground := Ground.data }, { on := 9, ground := Ground.data }], guard := none }) (v := ?_) rfl (by kernel_rfl) (by kernel_rfl) (by kernel_rfl) (fun _ _ _ h => h) (Or.inl ⟨by rfl, ?_⟩) (by assumption) ?_
      rotate_left
      · ((intro w hSw; (try dsimp only at hSw); go_simp); try with_reducible rfl)
      (try simp only [Act.put, List.setIfInBounds_toArray, List.set_cons_zero, List.set_cons_succ])
      refine wpAnyH_take (i := 11) (oi := { dst := some 21, op := Op.fieldAddr 61 (Operand.tmp 3) 4, type := 0, pos := "ref.go:267", after := #[], guard := none }) (v := ?_) rfl (by kernel_rfl) (by kernel_rfl) (by kernel_rfl) (fun _ _ _ h => h) (Or.inl ⟨by rfl, ?_⟩) (by assumption) ?_
      rotate_left
      · ((intro w hSw; (try dsimp only at hSw); go_simp); try with_reducible rfl)
      (try simp only [Act.put, List.setIfInBounds_toArray, List.set_cons_zero, List.set_cons_succ])
      refine wpAnyH_take (i := 12) (oi := { dst := some 22, op := Op.load 5 (Operand.tmp 21), type := 5, pos := "ref.go:267", after := #[{ on := 11, ground := Ground.data }], guard := none }) (v := ?_) rfl (by kernel_rfl) (by kernel_rfl) (by kernel_rfl) (fun _ _ _ h => h) (Or.inl ⟨by rfl, ?_⟩) (by assumption) ?_
      rotate_left
      · ((intro w hSw; (try dsimp only at hSw); go_simp); try with_reducible rfl)
      (try simp only [Act.put, List.setIfInBounds_toArray, List.set_cons_zero, List.set_cons_succ])
      refine wpAnyH_take (i := 13) (oi := { dst := some 23, op := Op.binOp BinOp.rem 5 (Operand.tmp 22) (Operand.const (Value.int IntKind.u8 2)) 5, type := 5, pos := "ref.go:267", after := #[{ on := 12, ground := Ground.data }], guard := none }) (v := ?_) rfl (by kernel_rfl) (by kernel_rfl) (by kernel_rfl) (fun _ _ _ h => h) (Or.inl ⟨by rfl, ?_⟩) (by assumption) ?_
      rotate_left
      · ((intro w hSw; (try dsimp only at hSw); go_simp); try with_reducible rfl)
      (try simp only [Act.put, List.setIfInBounds_toArray, List.set_cons_zero, List.set_cons_succ])
      refine wpAnyH_take (i := 14) (oi := { dst := some 24, op := Op.convert 5 3 (Operand.tmp 23), type := 3, pos := "ref.go:267", after := #[{ on := 13, ground := Ground.data }], guard := none }) (v := ?_) rfl (by kernel_rfl) (by kernel_rfl) (by kernel_rfl) (fun _ _ _ h => h) (Or.inl ⟨by rfl, ?_⟩) (by assumption) ?_
      rotate_left
      · ((intro w hSw; (try dsimp only at hSw); go_simp); try with_reducible rfl)
      (try simp only [Act.put, List.setIfInBounds_toArray, List.set_cons_zero, List.set_cons_succ])
      refine wpAnyH_ready (rs := [3, 16]) (by kernel_rfl) (by simp) ?_
      refine AllReadyH.cons (o := { dst := some 13, op := Op.makeSlice 29 (Operand.tmp 12) (Operand.tmp 12), type := 29, pos := "ref.go:267", after := #[{ on := 2, ground := Ground.data }, { on := 2, ground := Ground.data }], guard := none }) rfl (fun K hK => ?_) (AllReadyH.cons (o := { dst := some 5, op := Op.alloc 32, type := 0, pos := "ref.go:267", after := #[], guard := none }) rfl (fun K hK => ?_) AllReadyH.nil)
      · refine step_zeros rfl (.tmp 12) (.tmp 12) rfl bc (by omega) rfl rfl ?_
        refine hK.out _ _ ⟨cell_alloc_keep hHeld.1 _, cell_alloc_keep hHeld.2.1 _, cell_alloc_keep hHeld.2.2.1 _, cell_alloc_keep hHeld.2.2.2 _⟩ (fun hS => ?_)
        clear hK K
        (try simp only [Act.put, List.setIfInBounds_toArray, List.set_cons_zero, List.set_cons_succ])
        refine wpAnyH_take (i := 15) (oi := { dst := some 25, op := Op.build 32 #[(0, Operand.tmp 13), (2, Operand.tmp 20), (3, Operand.tmp 24)], type := 32, pos := "ref.go:267", after := #[{ on := 3, ground := Ground.data }, { on := 10, ground := Ground.data }, { on := 14, ground := Ground.data }], guard := none }) (v := ?_) rfl (by kernel_rfl) (by kernel_rfl) (by kernel_rfl) (fun _ _ _ h => h) (Or.inl ⟨by rfl, ?_⟩) (by assumption) ?_
        rotate_left
        · ((intro w hSw; (try dsimp only at hSw); go_simp); try with_reducible rfl)
        (try simp only [Act.put, List.setIfInBounds_toArray, List.set_cons_zero, List.set_cons_succ])
        refine wpAnyH_ready (rs := [16]) (by kernel_rfl) (by simp) ?_
        refine AllReadyH.cons (o := { dst := some 5, op := Op.alloc 32, type := 0, pos := "ref.go:267", after := #[], guard := none }) rfl (fun K hK => ?_) AllReadyH.nil
        go_simp
        refine hK.out _ _ ⟨cell_alloc_keep hS.1 _, cell_alloc_keep hS.2.1 _, cell_alloc_keep hS.2.2.1 _, cell_alloc_keep hS.2.2.2 _⟩ (fun hS2 => ?_)
        clear hK K
        (try simp only [Act.put, List.setIfInBounds_toArray, List.set_cons_zero, List.set_cons_succ])
        refine wpAnyH_ready (rs := [17]) (by kernel_rfl) (by simp) ?_
        refine AllReadyH.cons (o := { dst := none, op := Op.store 32 (Operand.tmp 5) (Operand.tmp 25), type := 0, pos := "ref.go:267", after := #[{ on := 16, ground := Ground.data }, { on := 15, ground := Ground.data }, { on := 0, ground := Ground.phase }, { on := 1, ground := Ground.phase }, { on := 2, ground := Ground.phase }, { on := 3, ground := Ground.phase }, { on := 4, ground := Ground.phase }, { on := 5, ground := Ground.phase }, { on := 6, ground := Ground.phase }, { on := 7, ground := Ground.phase }, { on := 8, ground := Ground.phase }, { on := 9, ground := Ground.phase }, { on := 10, ground := Ground.phase }, { on := 11, ground := Ground.phase }, { on := 12, ground := Ground.phase }, { on := 13, ground := Ground.phase }, { on := 14, ground := Ground.phase }, { on := 15, ground := Ground.phase }, { on := 16, ground := Ground.phase }], guard := none }) rfl (fun K hK => ?_) AllReadyH.nil
        go_simp
        refine hK.out _ _ ⟨cell_alloc_keep hS.1 _, cell_alloc_keep hS.2.1 _, cell_alloc_keep hS.2.2.1 _, cell_alloc_keep hS.2.2.2 _⟩ (fun _ => ?_)
        clear hK K
        (try simp only [Act.put, List.setIfInBounds_toArray, List.set_cons_zero, List.set_cons_succ])
        refine wpAnyH_done (by kernel_rfl) ?_ _
        go_wp2_with fail; go_meet
        case rel => exact ⟨_, _, rfl, hp_new_at _ _ (by simp [hs0]), hp_old_at (hp_new_at _ _ (by rw [hs0])), by omega, by omega, by (repeat (first | exact Below.refl _ _ | assumption | refine below_alloc ?_ _ | refine Below.drew ?_ | refine below_drewN_ ?_ _ | refine below_step ?_ (by assumption)))⟩
      · go_simp
        refine hK.out _ _ ⟨cell_alloc_keep hHeld.1 _, cell_alloc_keep hHeld.2.1 _, cell_alloc_keep hHeld.2.2.1 _, cell_alloc_keep hHeld.2.2.2 _⟩ (fun hS => ?_)
        clear hK K
        (try simp only [Act.put, List.setIfInBounds_toArray, List.set_cons_zero, List.set_cons_succ])
        refine wpAnyH_ready (rs := [3]) (by kernel_rfl) (by simp) ?_
        refine AllReadyH.cons (o := { dst := some 13, op := Op.makeSlice 29 (Operand.tmp 12) (Operand.tmp 12), type := 29, pos := "ref.go:267", after := #[{ on := 2, ground := Ground.data }, { on := 2, ground := Ground.data }], guard := none }) rfl (fun K hK => ?_) AllReadyH.nil
        refine step_zeros rfl (.tmp 12) (.tmp 12) rfl bc (by omega) rfl rfl ?_
        refine hK.out _ _ ⟨cell_alloc_keep hS.1 _, cell_alloc_keep hS.2.1 _, cell_alloc_keep hS.2.2.1 _, cell_alloc_keep hS.2.2.2 _⟩ (fun hS2 => ?_)
        clear hK K
        (try simp only [Act.put, List.setIfInBounds_toArray, List.set_cons_zero, List.set_cons_succ])
        refine wpAnyH_take (i := 15) (oi := { dst := some 25, op := Op.build 32 #[(0, Operand.tmp 13), (2, Operand.tmp 20), (3, Operand.tmp 24)], type := 32, pos := "ref.go:267", after := #[{ on := 3, ground := Ground.data }, { on := 10, ground := Ground.data }, { on := 14, ground := Ground.data }], guard := none }) (v := ?_) rfl (by kernel_rfl) (by kernel_rfl) (by kernel_rfl) (fun _ _ _ h => h) (Or.inl ⟨by rfl, ?_⟩) (by assumption) ?_
        rotate_left
        · ((intro w hSw; (try dsimp only at hSw); go_simp); try with_reducible rfl)
        (try simp only [Act.put, List.setIfInBounds_toArray, List.set_cons_zero, List.set_cons_succ])
        refine wpAnyH_ready (rs := [17]) (by kernel_rfl) (by simp) ?_
        refine AllReadyH.cons (o := { dst := none, op := Op.store 32 (Operand.tmp 5) (Operand.tmp 25), type := 0, pos := "ref.go:267", after := #[{ on := 16, ground := Ground.data }, { on := 15, ground := Ground.data }, { on := 0, ground := Ground.phase }, { on := 1, ground := Ground.phase }, { on := 2, ground := Ground.phase }, { on := 3, ground := Ground.phase }, { on := 4, ground := Ground.phase }, { on := 5, ground := Ground.phase }, { on := 6, ground := Ground.phase }, { on := 7, ground := Ground.phase }, { on := 8, ground := Ground.phase }, { on := 9, ground := Ground.phase }, { on := 10, ground := Ground.phase }, { on := 11, ground := Ground.phase }, { on := 12, ground := Ground.phase }, { on := 13, ground := Ground.phase }, { on := 14, ground := Ground.phase }, { on := 15, ground := Ground.phase }, { on := 16, ground := Ground.phase }], guard := none }) rfl (fun K hK => ?_) AllReadyH.nil
        go_simp
        refine hK.out _ _ ⟨cell_alloc_keep (cell_alloc_keep hHeld.1 _) _, cell_alloc_keep (cell_alloc_keep hHeld.2.1 _) _, cell_alloc_keep (cell_alloc_keep hHeld.2.2.1 _) _, cell_alloc_keep (cell_alloc_keep hHeld.2.2.2 _) _⟩ (fun _ => ?_)
        clear hK K
        (try simp only [Act.put, List.setIfInBounds_toArray, List.set_cons_zero, List.set_cons_succ])
        refine wpAnyH_done (by kernel_rfl) ?_ _
        go_wp2_with fail; go_meet
        case rel => exact ⟨_, _, rfl, hp_old_at (hp_new_at _ _ (by rw [hs0])), hp_new_at _ _ (by simp [hs0]), by omega, by omega, by (repeat (first | exact Below.refl _ _ | assumption | refine below_alloc ?_ _ | refine Below.drew ?_ | refine below_drewN_ ?_ _ | refine below_step ?_ (by assumption)))⟩
    · skip
      have hM : x.rights % 2 ^ 1 = x.rights % 2 := rfl
      have HM := Lib.hid hM
      clear hM
      have e1 : ((x.rights : Nat) : Int).tmod 2 = ((x.rights % 2 : Nat) : Int) := rfl
      have l1 := Nat.mod_lt x.rights (show 0 < 2 by omega)
      generalize x.rights % 2 = zr at *
      have i1 := i64_id zr (by omega)
      have i0 := i64_id x.rights (by omega)
      have iw : IntKind.i64.wrap 2 = 2 := rfl
      refine wp_region_held_drew (S := fun W => W.cell? ⟨w.heap.size, 0, none⟩ = some (.int .i64 (bc : Int)) ∧ W.cell? ⟨w.heap.size, 4, none⟩ = some (.int .i64 1) ∧ W.cell? ⟨w.heap.size + 1, 16, none⟩ = some (.int .u8 x.rights) ∧ W.cell? ⟨w.heap.size + 1, 17, none⟩ = some (.int .u8 x.side)) (by kernel_rfl) ⟨g0, g4, r16, r17⟩ (fun hHeld => ?_)
      refine wpAnyH_take (i := 0) (oi := { dst := some 10, op := Op.fieldAddr 41 (Operand.tmp 2) 0, type := 0, pos := "ref.go:267", after := #[], guard := none }) (v := ?_) rfl (by kernel_rfl) (by kernel_rfl) (by kernel_rfl) (fun _ _ _ h => h) (Or.inl ⟨by rfl, ?_⟩) (by assumption) ?_
      rotate_left
      · ((intro w hSw; (try dsimp only at hSw); go_simp); try with_reducible rfl)
      (try simp only [Act.put, List.setIfInBounds_toArray, List.set_cons_zero, List.set_cons_succ])
      refine wpAnyH_take (i := 1) (oi := { dst := some 11, op := Op.fieldAddr 37 (Operand.tmp 10) 0, type := 0, pos := "ref.go:267", after := #[{ on := 0, ground := Ground.data }], guard := none }) (v := ?_) rfl (by kernel_rfl) (by kernel_rfl) (by kernel_rfl) (fun _ _ _ h => h) (Or.inl ⟨by rfl, ?_⟩) (by assumption) ?_
      rotate_left
      · ((intro w hSw; (try dsimp only at hSw); go_simp); try with_reducible rfl)
      (try simp only [Act.put, List.setIfInBounds_toArray, List.set_cons_zero, List.set_cons_succ])
      refine wpAnyH_take (i := 2) (oi := { dst := some 12, op := Op.load 3 (Operand.tmp 11), type := 3, pos := "ref.go:267", after := #[{ on := 1, ground := Ground.data }], guard := none }) (v := ?_) rfl (by kernel_rfl) (by kernel_rfl) (by kernel_rfl) (fun _ _ _ h => h) (Or.inl ⟨by rfl, ?_⟩) (by assumption) ?_
      rotate_left
      · ((intro w hSw; (try dsimp only at hSw); go_simp); try with_reducible rfl)
      (try simp only [Act.put, List.setIfInBounds_toArray, List.set_cons_zero, List.set_cons_succ])
      refine wpAnyH_take (i := 4) (oi := { dst := some 14, op := Op.fieldAddr 61 (Operand.tmp 3) 3, type := 0, pos := "ref.go:267", after := #[], guard := none }) (v := ?_) rfl (by kernel_rfl) (by kernel_rfl) (by kernel_rfl) (fun _ _ _ h => h) (Or.inl ⟨by rfl, ?_⟩) (by assumption) ?_
      rotate_left
      · ((intro w hSw; (try dsimp only at hSw); go_simp); try with_reducible rfl)
      (try simp only [Act.put, List.setIfInBounds_toArray, List.set_cons_zero, List.set_cons_succ])
      refine wpAnyH_take (i := 5) (oi := { dst := some 15, op := Op.load 5 (Operand.tmp 14), type := 5, pos := "ref.go:267", after := #[{ on := 4, ground := Ground.data }], guard := none }) (v := ?_) rfl (by kernel_rfl) (by kernel_rfl) (by kernel_rfl) (fun _ _ _ h => h) (Or.inl ⟨by rfl, ?_⟩) (by assumption) ?_
      rotate_left
      · ((intro w hSw; (try dsimp only at hSw); go_simp); try with_reducible rfl)
      (try simp only [Act.put, List.setIfInBounds_toArray, List.set_cons_zero, List.set_cons_succ])
      refine wpAnyH_take (i := 6) (oi := { dst := some 16, op := Op.convert 5 3 (Operand.tmp 15), type := 3, pos := "ref.go:267", after := #[{ on := 5, ground := Ground.data }], guard := none }) (v := ?_) rfl (by kernel_rfl) (by kernel_rfl) (by kernel_rfl) (fun _ _ _ h => h) (Or.inl ⟨by rfl, ?_⟩) (by assumption) ?_
      rotate_left
      · ((intro w hSw; (try dsimp only at hSw); go_simp); try with_reducible rfl)
      (try simp only [Act.put, List.setIfInBounds_toArray, List.set_cons_zero, List.set_cons_succ])
      refine wpAnyH_take (i := 7) (oi := { dst := some 17, op := Op.fieldAddr 41 (Operand.tmp 2) 2, type := 0, pos := "ref.go:267", after := #[], guard := none }) (v := ?_) rfl (by kernel_rfl) (by kernel_rfl) (by kernel_rfl) (fun _ _ _ h => h) (Or.inl ⟨by rfl, ?_⟩) (by assumption) ?_
      rotate_left
      · ((intro w hSw; (try dsimp only at hSw); go_simp); try with_reducible rfl)
      (try simp only [Act.put, List.setIfInBounds_toArray, List.set_cons_zero, List.set_cons_succ])
      refine wpAnyH_take (i := 8) (oi := { dst := some 18, op := Op.load 3 (Operand.tmp 17), type := 3, pos := "ref.go:267", after := #[{ on := 7, ground := Ground.data }], guard := none }) (v := ?_) rfl (by kernel_rfl) (by kernel_rfl) (by kernel_rfl) (fun _ _ _ h => h) (Or.inl ⟨by rfl, ?_⟩) (by assumption) ?_
      rotate_left
      · ((intro w hSw; (try dsimp only at hSw); go_simp); try with_reducible rfl)
      (try simp only [Act.put, List.setIfInBounds_toArray, List.set_cons_zero, List.set_cons_succ])
      refine wpAnyH_take (i := 9) (oi := { dst := some 19, op := Op.binOp BinOp.shl 3 (Operand.const (Value.int IntKind.i64 1)) (Operand.tmp 18) 3, type := 3, pos := "ref.go:267", after := #[{ on := 8, ground := Ground.data }], guard := none }) (v := ?_) rfl (by kernel_rfl) (by kernel_rfl) (by kernel_rfl) (fun _ _ _ h => h) (Or.inl ⟨by rfl, ?_⟩) (by assumption) ?_
      rotate_left
      · ((intro w hSw; (try dsimp only at hSw); go_simp); try with_reducible rfl)
      (try simp only [Act.put, List.setIfInBounds_toArray, List.set_cons_zero, List.set_cons_succ])
      refine wpAnyH_take (i := 10) (oi := { dst := some 20, op := Op.binOp BinOp.rem 3 (Operand.tmp 16) (Operand.tmp 19) 3, type := 3, pos := "ref.go:267", after := #[{ on := 6, ground := Ground.data }, { on := 9, ground := Ground.data }], guard := none }) (v := ?_) rfl (by kernel_rfl) (by kernel_rfl) (by kernel_rfl) (fun _ _ _ h => h) (Or.inl ⟨by rfl, ?_⟩) (by assumption) ?_
      rotate_left
      · ((intro w hSw; (try dsimp only at hSw); go_simp); try with_reducible rfl)
      (try simp only [Act.put, List.setIfInBounds_toArray, List.set_cons_zero, List.set_cons_succ])
      refine wpAnyH_take (i := 11) (oi := { dst := some 21, op := Op.fieldAddr 61 (Operand.tmp 3) 4, type := 0, pos := "ref.go:267", after := #[], guard := none }) (v := ?_) rfl (by kernel_rfl) (by kernel_rfl) (by kernel_rfl) (fun _ _ _ h => h) (Or.inl ⟨by rfl, ?_⟩) (by assumption) ?_
      rotate_left
      · ((intro w hSw; (try dsimp only at hSw); go_simp); try with_reducible rfl)
      (try simp only [Act.put, List.setIfInBounds_toArray, List.set_cons_zero, List.set_cons_succ])
      refine wpAnyH_take (i := 12) (oi := { dst := some 22, op := Op.load 5 (Operand.tmp 21), type := 5, pos := "ref.go:267", after := #[{ on := 11, ground := Ground.data }], guard := none }) (v := ?_) rfl (by kernel_rfl) (by kernel_rfl) (by kernel_rfl) (fun _ _ _ h => h) (Or.inl ⟨by rfl, ?_⟩) (by assumption) ?_
      rotate_left
      · ((intro w hSw; (try dsimp only at hSw); go_simp); try with_reducible rfl)
      (try simp only [Act.put, List.setIfInBounds_toArray, List.set_cons_zero, List.set_cons_succ])
      refine wpAnyH_take (i := 13) (oi := { dst := some 23, op := Op.binOp BinOp.rem 5 (Operand.tmp 22) (Operand.const (Value.int IntKind.u8 2)) 5, type := 5, pos := "ref.go:267", after := #[{ on := 12, ground := Ground.data }], guard := none }) (v := ?_) rfl (by kernel_rfl) (by kernel_rfl) (by kernel_rfl) (fun _ _ _ h => h) (Or.inl ⟨by rfl, ?_⟩) (by assumption) ?_
      rotate_left
      · ((intro w hSw; (try dsimp only at hSw); go_simp); try with_reducible rfl)
      (try simp only [Act.put, List.setIfInBounds_toArray, List.set_cons_zero, List.set_cons_succ])
      refine wpAnyH_take (i := 14) (oi := { dst := some 24, op := Op.convert 5 3 (Operand.tmp 23), type := 3, pos := "ref.go:267", after := #[{ on := 13, ground := Ground.data }], guard := none }) (v := ?_) rfl (by kernel_rfl) (by kernel_rfl) (by kernel_rfl) (fun _ _ _ h => h) (Or.inl ⟨by rfl, ?_⟩) (by assumption) ?_
      rotate_left
      · ((intro w hSw; (try dsimp only at hSw); go_simp); try with_reducible rfl)
      (try simp only [Act.put, List.setIfInBounds_toArray, List.set_cons_zero, List.set_cons_succ])
      refine wpAnyH_ready (rs := [3, 16]) (by kernel_rfl) (by simp) ?_
      refine AllReadyH.cons (o := { dst := some 13, op := Op.makeSlice 29 (Operand.tmp 12) (Operand.tmp 12), type := 29, pos := "ref.go:267", after := #[{ on := 2, ground := Ground.data }, { on := 2, ground := Ground.data }], guard := none }) rfl (fun K hK => ?_) (AllReadyH.cons (o := { dst := some 5, op := Op.alloc 32, type := 0, pos := "ref.go:267", after := #[], guard := none }) rfl (fun K hK => ?_) AllReadyH.nil)
      · refine step_zeros rfl (.tmp 12) (.tmp 12) rfl bc (by omega) rfl rfl ?_
        refine hK.out _ _ ⟨cell_alloc_keep hHeld.1 _, cell_alloc_keep hHeld.2.1 _, cell_alloc_keep hHeld.2.2.1 _, cell_alloc_keep hHeld.2.2.2 _⟩ (fun hS => ?_)
        clear hK K
        (try simp only [Act.put, List.setIfInBounds_toArray, List.set_cons_zero, List.set_cons_succ])
        refine wpAnyH_take (i := 15) (oi := { dst := some 25, op := Op.build 32 #[(0, Operand.tmp 13), (2, Operand.tmp 20), (3, Operand.tmp 24)], type := 32, pos := "ref.go:267", after := #[{ on := 3, ground := Ground.data }, { on := 10, ground := Ground.data }, { on := 14, ground := Ground.data }], guard := none }) (v := ?_) rfl (by kernel_rfl) (by kernel_rfl) (by kernel_rfl) (fun _ _ _ h => h) (Or.inl ⟨by rfl, ?_⟩) (by assumption) ?_
        rotate_left
        · ((intro w hSw; (try dsimp only at hSw); go_simp); try with_reducible rfl)
        (try simp only [Act.put, List.setIfInBounds_toArray, List.set_cons_zero, List.set_cons_succ])
        refine wpAnyH_ready (rs := [16]) (by kernel_rfl) (by simp) ?_
        refine AllReadyH.cons (o := { dst := some 5, op := Op.alloc 32, type := 0, pos := "ref.go:267", after := #[], guard := none }) rfl (fun K hK => ?_) AllReadyH.nil
        go_simp
        refine hK.out _ _ ⟨cell_alloc_keep hS.1 _, cell_alloc_keep hS.2.1 _, cell_alloc_keep hS.2.2.1 _, cell_alloc_keep hS.2.2.2 _⟩ (fun hS2 => ?_)
        clear hK K
        (try simp only [Act.put, List.setIfInBounds_toArray, List.set_cons_zero, List.set_cons_succ])
        refine wpAnyH_ready (rs := [17]) (by kernel_rfl) (by simp) ?_
        refine AllReadyH.cons (o := { dst := none, op := Op.store 32 (Operand.tmp 5) (Operand.tmp 25), type := 0, pos := "ref.go:267", after := #[{ on := 16, ground := Ground.data }, { on := 15, ground := Ground.data }, { on := 0, ground := Ground.phase }, { on := 1, ground := Ground.phase }, { on := 2, ground := Ground.phase }, { on := 3, ground := Ground.phase }, { on := 4, ground := Ground.phase }, { on := 5, ground := Ground.phase }, { on := 6, ground := Ground.phase }, { on := 7, ground := Ground.phase }, { on := 8, ground := Ground.phase }, { on := 9, ground := Ground.phase }, { on := 10, ground := Ground.phase }, { on := 11, ground := Ground.phase }, { on := 12, ground := Ground.phase }, { on := 13, ground := Ground.phase }, { on := 14, ground := Ground.phase }, { on := 15, ground := Ground.phase }, { on := 16, ground := Ground.phase }], guard := none }) rfl (fun K hK => ?_) AllReadyH.nil
        go_simp
        refine hK.out _ _ ⟨cell_alloc_keep hS.1 _, cell_alloc_keep hS.2.1 _, cell_alloc_keep hS.2.2.1 _, cell_alloc_keep hS.2.2.2 _⟩ (fun _ => ?_)
        clear hK K
        (try simp only [Act.put, List.setIfInBounds_toArray, List.set_cons_zero, List.set_cons_succ])
        refine wpAnyH_done (by kernel_rfl) ?_ _
        go_wp2_with fail; go_meet
        case rel => exact ⟨_, _, rfl, hp_new_at _ _ (by simp [hs0]), hp_old_at (hp_new_at _ _ (by rw [hs0])), by omega, by omega, by (repeat (first | exact Below.refl _ _ | assumption | refine below_alloc ?_ _ | refine Below.drew ?_ | refine below_drewN_ ?_ _ | refine below_step ?_ (by assumption)))⟩
      · go_simp
        refine hK.out _ _ ⟨cell_alloc_keep hHeld.1 _, cell_alloc_keep hHeld.2.1 _, cell_alloc_keep hHeld.2.2.1 _, cell_alloc_keep hHeld.2.2.2 _⟩ (fun hS => ?_)
        clear hK K
        (try simp only [Act.put, List.setIfInBounds_toArray, List.set_cons_zero, List.set_cons_succ])
        refine wpAnyH_ready (rs := [3]) (by kernel_rfl) (by simp) ?_
        refine AllReadyH.cons (o := { dst := some 13, op := Op.makeSlice 29 (Operand.tmp 12) (Operand.tmp 12), type := 29, pos := "ref.go:267", after := #[{ on := 2, ground := Ground.data }, { on := 2, ground := Ground.data }], guard := none }) rfl (fun K hK => ?_) AllReadyH.nil
        refine step_zeros rfl (.tmp 12) (.tmp 12) rfl bc (by omega) rfl rfl ?_
        refine hK.out _ _ ⟨cell_alloc_keep hS.1 _, cell_alloc_keep hS.2.1 _, cell_alloc_keep hS.2.2.1 _, cell_alloc_keep hS.2.2.2 _⟩ (fun hS2 => ?_)
        clear hK K
        (try simp only [Act.put, List.setIfInBounds_toArray, List.set_cons_zero, List.set_cons_succ])
        refine wpAnyH_take (i := 15) (oi := { dst := some 25, op := Op.build 32 #[(0, Operand.tmp 13), (2, Operand.tmp 20), (3, Operand.tmp 24)], type := 32, pos := "ref.go:267", after := #[{ on := 3, ground := Ground.data }, { on := 10, ground := Ground.data }, { on := 14, ground := Ground.data }], guard := none }) (v := ?_) rfl (by kernel_rfl) (by kernel_rfl) (by kernel_rfl) (fun _ _ _ h => h) (Or.inl ⟨by rfl, ?_⟩) (by assumption) ?_
        rotate_left
        · ((intro w hSw; (try dsimp only at hSw); go_simp); try with_reducible rfl)
        (try simp only [Act.put, List.setIfInBounds_toArray, List.set_cons_zero, List.set_cons_succ])
        refine wpAnyH_ready (rs := [17]) (by kernel_rfl) (by simp) ?_
        refine AllReadyH.cons (o := { dst := none, op := Op.store 32 (Operand.tmp 5) (Operand.tmp 25), type := 0, pos := "ref.go:267", after := #[{ on := 16, ground := Ground.data }, { on := 15, ground := Ground.data }, { on := 0, ground := Ground.phase }, { on := 1, ground := Ground.phase }, { on := 2, ground := Ground.phase }, { on := 3, ground := Ground.phase }, { on := 4, ground := Ground.phase }, { on := 5, ground := Ground.phase }, { on := 6, ground := Ground.phase }, { on := 7, ground := Ground.phase }, { on := 8, ground := Ground.phase }, { on := 9, ground := Ground.phase }, { on := 10, ground := Ground.phase }, { on := 11, ground := Ground.phase }, { on := 12, ground := Ground.phase }, { on := 13, ground := Ground.phase }, { on := 14, ground := Ground.phase }, { on := 15, ground := Ground.phase }, { on := 16, ground := Ground.phase }], guard := none }) rfl (fun K hK => ?_) AllReadyH.nil
        go_simp
        refine hK.out _ _ ⟨cell_alloc_keep (cell_alloc_keep hHeld.1 _) _, cell_alloc_keep (cell_alloc_keep hHeld.2.1 _) _, cell_alloc_keep (cell_alloc_keep hHeld.2.2.1 _) _, cell_alloc_keep (cell_alloc_keep hHeld.2.2.2 _) _⟩ (fun _ => ?_)
        clear hK K
        (try simp only [Act.put, List.setIfInBounds_toArray, List.set_cons_zero, List.set_cons_succ])
        refine wpAnyH_done (by kernel_rfl) ?_ _
        go_wp2_with fail; go_meet
        case rel => exact ⟨_, _, rfl, hp_old_at (hp_new_at _ _ (by rw [hs0])), hp_new_at _ _ (by simp [hs0]), by omega, by omega, by (repeat (first | exact Below.refl _ _ | assumption | refine below_alloc ?_ _ | refine Below.drew ?_ | refine below_drewN_ ?_ _ | refine below_step ?_ (by assumption)))⟩
    · skip
      have hM : x.rights % 2 ^ 2 = x.rights % 4 := rfl
      have HM := Lib.hid hM
      clear hM
      have e1 : ((x.rights : Nat) : Int).tmod 4 = ((x.rights % 4 : Nat) : Int) := rfl
      have l1 := Nat.mod_lt x.rights (show 0 < 4 by omega)
      generalize x.rights % 4 = zr at *
      have i1 := i64_id zr (by omega)
      have i0 := i64_id x.rights (by omega)
      have iw : IntKind.i64.wrap 4 = 4 := rfl
      refine wp_region_held_drew (S := fun W => W.cell? ⟨w.heap.size, 0, none⟩ = some (.int .i64 (bc : Int)) ∧ W.cell? ⟨w.heap.size, 4, none⟩ = some (.int .i64 2) ∧ W.cell? ⟨w.heap.size + 1, 16, none⟩ = some (.int .u8 x.rights) ∧ W.cell? ⟨w.heap.size + 1, 17, none⟩ = some (.int .u8 x.side)) (by kernel_rfl) ⟨g0, g4, r16, r17⟩ (fun hHeld => ?_)
      refine wpAnyH_take (i := 0) (oi := { dst := some 10, op := Op.fieldAddr 41 (Operand.tmp 2) 0, type := 0, pos := "ref.go:267", after := #[], guard := none }) (v := ?_) rfl (by kernel_rfl) (by kernel_rfl) (by kernel_rfl) (fun _ _ _ h => h) (Or.inl ⟨by rfl, ?_⟩) (by assumption) ?_
      rotate_left
      · ((intro w hSw; (try dsimp only at hSw); go_simp); try with_reducible rfl)
      (try simp only [Act.put, List.setIfInBounds_toArray, List.set_cons_zero, List.set_cons_succ])
      refine wpAnyH_take (i := 1) (oi := { dst := some 11, op := Op.fieldAddr 37 (Operand.tmp 10) 0, type := 0, pos := "ref.go:267", after := #[{ on := 0, ground := Ground.data }], guard := none }) (v := ?_) rfl (by kernel_rfl) (by kernel_rfl) (by kernel_rfl) (fun _ _ _ h => h) (Or.inl ⟨by rfl, ?_⟩) (by assumption) ?_
      rotate_left
      · ((intro w hSw; (try dsimp only at hSw); go_simp); try with_reducible rfl)
      (try simp only [Act.put, List.setIfInBounds_toArray, List.set_cons_zero, List.set_cons_succ])
      refine wpAnyH_take (i := 2) (oi := { dst := some 12, op := Op.load 3 (Operand.tmp 11), type := 3, pos := "ref.go:267", after := #[{ on := 1, ground := Ground.data }], guard := none }) (v := ?_) rfl (by kernel_rfl) (by kernel_rfl) (by kernel_rfl) (fun _ _ _ h => h) (Or.inl ⟨by rfl, ?_⟩) (by assumption) ?_
      rotate_left
      · ((intro w hSw; (try dsimp only at hSw); go_simp); try with_reducible rfl)
      (try simp only [Act.put, List.setIfInBounds_toArray, List.set_cons_zero, List.set_cons_succ])
      refine wpAnyH_take (i := 4) (oi := { dst := some 14, op := Op.fieldAddr 61 (Operand.tmp 3) 3, type := 0, pos := "ref.go:267", after := #[], guard := none }) (v := ?_) rfl (by kernel_rfl) (by kernel_rfl) (by kernel_rfl) (fun _ _ _ h => h) (Or.inl ⟨by rfl, ?_⟩) (by assumption) ?_
      rotate_left
      · ((intro w hSw; (try dsimp only at hSw); go_simp); try with_reducible rfl)
      (try simp only [Act.put, List.setIfInBounds_toArray, List.set_cons_zero, List.set_cons_succ])
      refine wpAnyH_take (i := 5) (oi := { dst := some 15, op := Op.load 5 (Operand.tmp 14), type := 5, pos := "ref.go:267", after := #[{ on := 4, ground := Ground.data }], guard := none }) (v := ?_) rfl (by kernel_rfl) (by kernel_rfl) (by kernel_rfl) (fun _ _ _ h => h) (Or.inl ⟨by rfl, ?_⟩) (by assumption) ?_
      rotate_left
      · ((intro w hSw; (try dsimp only at hSw); go_simp); try with_reducible rfl)
      (try simp only [Act.put, List.setIfInBounds_toArray, List.set_cons_zero, List.set_cons_succ])
      refine wpAnyH_take (i := 6) (oi := { dst := some 16, op := Op.convert 5 3 (Operand.tmp 15), type := 3, pos := "ref.go:267", after := #[{ on := 5, ground := Ground.data }], guard := none }) (v := ?_) rfl (by kernel_rfl) (by kernel_rfl) (by kernel_rfl) (fun _ _ _ h => h) (Or.inl ⟨by rfl, ?_⟩) (by assumption) ?_
      rotate_left
      · ((intro w hSw; (try dsimp only at hSw); go_simp); try with_reducible rfl)
      (try simp only [Act.put, List.setIfInBounds_toArray, List.set_cons_zero, List.set_cons_succ])
      refine wpAnyH_take (i := 7) (oi := { dst := some 17, op := Op.fieldAddr 41 (Operand.tmp 2) 2, type := 0, pos := "ref.go:267", after := #[], guard := none }) (v := ?_) rfl (by kernel_rfl) (by kernel_rfl) (by kernel_rfl) (fun _ _ _ h => h) (Or.inl ⟨by rfl, ?_⟩) (by assumption) ?_
      rotate_left
      · ((intro w hSw; (try dsimp only at hSw); go_simp); try with_reducible rfl)
      (try simp only [Act.put, List.setIfInBounds_toArray, List.set_cons_zero, List.set_cons_succ])
      refine wpAnyH_take (i := 8) (oi := { dst := some 18, op := Op.load 3 (Operand.tmp 17), type := 3, pos := "ref.go:267", after := #[{ on := 7, ground := Ground.data }], guard := none }) (v := ?_) rfl (by kernel_rfl) (by kernel_rfl) (by kernel_rfl) (fun _ _ _ h => h) (Or.inl ⟨by rfl, ?_⟩) (by assumption) ?_
      rotate_left
      · ((intro w hSw; (try dsimp only at hSw); go_simp); try with_reducible rfl)
      (try simp only [Act.put, List.setIfInBounds_toArray, List.set_cons_zero, List.set_cons_succ])
      refine wpAnyH_take (i := 9) (oi := { dst := some 19, op := Op.binOp BinOp.shl 3 (Operand.const (Value.int IntKind.i64 1)) (Operand.tmp 18) 3, type := 3, pos := "ref.go:267", after := #[{ on := 8, ground := Ground.data }], guard := none }) (v := ?_) rfl (by kernel_rfl) (by kernel_rfl) (by kernel_rfl) (fun _ _ _ h => h) (Or.inl ⟨by rfl, ?_⟩) (by assumption) ?_
      rotate_left
      · ((intro w hSw; (try dsimp only at hSw); go_simp); try with_reducible rfl)
      (try simp only [Act.put, List.setIfInBounds_toArray, List.set_cons_zero, List.set_cons_succ])
      refine wpAnyH_take (i := 10) (oi := { dst := some 20, op := Op.binOp BinOp.rem 3 (Operand.tmp 16) (Operand.tmp 19) 3, type := 3, pos := "ref.go:267", after := #[{ on := 6, ground := Ground.data }, { on := 9, ground := Ground.data }], guard := none }) (v := ?_) rfl (by kernel_rfl) (by kernel_rfl) (by kernel_rfl) (fun _ _ _ h => h) (Or.inl ⟨by rfl, ?_⟩) (by assumption) ?_
      rotate_left
      · ((intro w hSw; (try dsimp only at hSw); go_simp); try with_reducible rfl)
      (try simp only [Act.put, List.setIfInBounds_toArray, List.set_cons_zero, List.set_cons_succ])
      refine wpAnyH_take (i := 11) (oi := { dst := some 21, op := Op.fieldAddr 61 (Operand.tmp 3) 4, type := 0, pos := "ref.go:267", after := #[], guard := none }) (v := ?_) rfl (by kernel_rfl) (by kernel_rfl) (by kernel_rfl) (fun _ _ _ h => h) (Or.inl ⟨by rfl, ?_⟩) (by assumption) ?_
      rotate_left
      · ((intro w hSw; (try dsimp only at hSw); go_simp); try with_reducible rfl)
      (try simp only [Act.put, List.setIfInBounds_toArray, List.set_cons_zero, List.set_cons_succ])
      refine wpAnyH_take (i := 12) (oi := { dst := some 22, op := Op.load 5 (Operand.tmp 21), type := 5, pos := "ref.go:267", after := #[{ on := 11, ground := Ground.data }], guard := none }) (v := ?_) rfl (by kernel_rfl) (by kernel_rfl) (by kernel_rfl) (fun _ _ _ h => h) (Or.inl ⟨by rfl, ?_⟩) (by assumption) ?_
      rotate_left
      · ((intro w hSw; (try dsimp only at hSw); go_simp); try with_reducible rfl)
      (try simp only [Act.put, List.setIfInBounds_toArray, List.set_cons_zero, List.set_cons_succ])
      refine wpAnyH_take (i := 13) (oi := { dst := some 23, op := Op.binOp BinOp.rem 5 (Operand.tmp 22) (Operand.const (Value.int IntKind.u8 2)) 5, type := 5, pos := "ref.go:267", after := #[{ on := 12, ground := Ground.data }], guard := none }) (v := ?_) rfl (by kernel_rfl) (by kernel_rfl) (by kernel_rfl) (fun _ _ _ h => h) (Or.inl ⟨by rfl, ?_⟩) (by assumption) ?_
      rotate_left
      · ((intro w hSw; (try dsimp only at hSw); go_simp); try with_reducible rfl)
      (try simp only [Act.put, List.setIfInBounds_toArray, List.set_cons_zero, List.set_cons_succ])
      refine wpAnyH_take (i := 14) (oi := { dst := some 24, op := Op.convert 5 3 (Operand.tmp 23), type := 3, pos := "ref.go:267", after := #[{ on := 13, ground := Ground.data }], guard := none }) (v := ?_) rfl (by kernel_rfl) (by kernel_rfl) (by kernel_rfl) (fun _ _ _ h => h) (Or.inl ⟨by rfl, ?_⟩) (by assumption) ?_
      rotate_left
      · ((intro w hSw; (try dsimp only at hSw); go_simp); try with_reducible rfl)
      (try simp only [Act.put, List.setIfInBounds_toArray, List.set_cons_zero, List.set_cons_succ])
      refine wpAnyH_ready (rs := [3, 16]) (by kernel_rfl) (by simp) ?_
      refine AllReadyH.cons (o := { dst := some 13, op := Op.makeSlice 29 (Operand.tmp 12) (Operand.tmp 12), type := 29, pos := "ref.go:267", after := #[{ on := 2, ground := Ground.data }, { on := 2, ground := Ground.data }], guard := none }) rfl (fun K hK => ?_) (AllReadyH.cons (o := { dst := some 5, op := Op.alloc 32, type := 0, pos := "ref.go:267", after := #[], guard := none }) rfl (fun K hK => ?_) AllReadyH.nil)
      · refine step_zeros rfl (.tmp 12) (.tmp 12) rfl bc (by omega) rfl rfl ?_
        refine hK.out _ _ ⟨cell_alloc_keep hHeld.1 _, cell_alloc_keep hHeld.2.1 _, cell_alloc_keep hHeld.2.2.1 _, cell_alloc_keep hHeld.2.2.2 _⟩ (fun hS => ?_)
        clear hK K
        (try simp only [Act.put, List.setIfInBounds_toArray, List.set_cons_zero, List.set_cons_succ])
        refine wpAnyH_take (i := 15) (oi := { dst := some 25, op := Op.build 32 #[(0, Operand.tmp 13), (2, Operand.tmp 20), (3, Operand.tmp 24)], type := 32, pos := "ref.go:267", after := #[{ on := 3, ground := Ground.data }, { on := 10, ground := Ground.data }, { on := 14, ground := Ground.data }], guard := none }) (v := ?_) rfl (by kernel_rfl) (by kernel_rfl) (by kernel_rfl) (fun _ _ _ h => h) (Or.inl ⟨by rfl, ?_⟩) (by assumption) ?_
        rotate_left
        · ((intro w hSw; (try dsimp only at hSw); go_simp); try with_reducible rfl)
        (try simp only [Act.put, List.setIfInBounds_toArray, List.set_cons_zero, List.set_cons_succ])
        refine wpAnyH_ready (rs := [16]) (by kernel_rfl) (by simp) ?_
        refine AllReadyH.cons (o := { dst := some 5, op := Op.alloc 32, type := 0, pos := "ref.go:267", after := #[], guard := none }) rfl (fun K hK => ?_) AllReadyH.nil
        go_simp
        refine hK.out _ _ ⟨cell_alloc_keep hS.1 _, cell_alloc_keep hS.2.1 _, cell_alloc_keep hS.2.2.1 _, cell_alloc_keep hS.2.2.2 _⟩ (fun hS2 => ?_)
        clear hK K
        (try simp only [Act.put, List.setIfInBounds_toArray, List.set_cons_zero, List.set_cons_succ])
        refine wpAnyH_ready (rs := [17]) (by kernel_rfl) (by simp) ?_
        refine AllReadyH.cons (o := { dst := none, op := Op.store 32 (Operand.tmp 5) (Operand.tmp 25), type := 0, pos := "ref.go:267", after := #[{ on := 16, ground := Ground.data }, { on := 15, ground := Ground.data }, { on := 0, ground := Ground.phase }, { on := 1, ground := Ground.phase }, { on := 2, ground := Ground.phase }, { on := 3, ground := Ground.phase }, { on := 4, ground := Ground.phase }, { on := 5, ground := Ground.phase }, { on := 6, ground := Ground.phase }, { on := 7, ground := Ground.phase }, { on := 8, ground := Ground.phase }, { on := 9, ground := Ground.phase }, { on := 10, ground := Ground.phase }, { on := 11, ground := Ground.phase }, { on := 12, ground := Ground.phase }, { on := 13, ground := Ground.phase }, { on := 14, ground := Ground.phase }, { on := 15, ground := Ground.phase }, { on := 16, ground := Ground.phase }], guard := none }) rfl (fun K hK => ?_) AllReadyH.nil
        go_simp
        refine hK.out _ _ ⟨cell_alloc_keep hS.1 _, cell_alloc_keep hS.2.1 _, cell_alloc_keep hS.2.2.1 _, cell_alloc_keep hS.2.2.2 _⟩ (fun _ => ?_)
        clear hK K
        (try simp only [Act.put, List.setIfInBounds_toArray, List.set_cons_zero, List.set_cons_succ])
        refine wpAnyH_done (by kernel_rfl) ?_ _
        go_wp2_with fail; go_meet
        case rel => exact ⟨_, _, rfl, hp_new_at _ _ (by simp [hs0]), hp_old_at (hp_new_at _ _ (by rw [hs0])), by omega, by omega, by (repeat (first | exact Below.refl _ _ | assumption | refine below_alloc ?_ _ | refine Below.drew ?_ | refine below_drewN_ ?_ _ | refine below_step ?_ (by assumption)))⟩
      · go_simp
        refine hK.out _ _ ⟨cell_alloc_keep hHeld.1 _, cell_alloc_keep hHeld.2.1 _, cell_alloc_keep hHeld.2.2.1 _, cell_alloc_keep hHeld.2.2.2 _⟩ (fun hS => ?_)
        clear hK K
        (try simp only [Act.put, List.setIfInBounds_toArray, List.set_cons_zero, List.set_cons_succ])
        refine wpAnyH_ready (rs := [3]) (by kernel_rfl) (by simp) ?_
        refine AllReadyH.cons (o := { dst := some 13, op := Op.makeSlice 29 (Operand.tmp 12) (Operand.tmp 12), type := 29, pos := "ref.go:267", after := #[{ on := 2, ground := Ground.data }, { on := 2, ground := Ground.data }], guard := none }) rfl (fun K hK => ?_) AllReadyH.nil
        refine step_zeros rfl (.tmp 12) (.tmp 12) rfl bc (by omega) rfl rfl ?_
        refine hK.out _ _ ⟨cell_alloc_keep hS.1 _, cell_alloc_keep hS.2.1 _, cell_alloc_keep hS.2.2.1 _, cell_alloc_keep hS.2.2.2 _⟩ (fun hS2 => ?_)
        clear hK K
        (try simp only [Act.put, List.setIfInBounds_toArray, List.set_cons_zero, List.set_cons_succ])
        refine wpAnyH_take (i := 15) (oi := { dst := some 25, op := Op.build 32 #[(0, Operand.tmp 13), (2, Operand.tmp 20), (3, Operand.tmp 24)], type := 32, pos := "ref.go:267", after := #[{ on := 3, ground := Ground.data }, { on := 10, ground := Ground.data }, { on := 14, ground := Ground.data }], guard := none }) (v := ?_) rfl (by kernel_rfl) (by kernel_rfl) (by kernel_rfl) (fun _ _ _ h => h) (Or.inl ⟨by rfl, ?_⟩) (by assumption) ?_
        rotate_left
        · ((intro w hSw; (try dsimp only at hSw); go_simp); try with_reducible rfl)
        (try simp only [Act.put, List.setIfInBounds_toArray, List.set_cons_zero, List.set_cons_succ])
        refine wpAnyH_ready (rs := [17]) (by kernel_rfl) (by simp) ?_
        refine AllReadyH.cons (o := { dst := none, op := Op.store 32 (Operand.tmp 5) (Operand.tmp 25), type := 0, pos := "ref.go:267", after := #[{ on := 16, ground := Ground.data }, { on := 15, ground := Ground.data }, { on := 0, ground := Ground.phase }, { on := 1, ground := Ground.phase }, { on := 2, ground := Ground.phase }, { on := 3, ground := Ground.phase }, { on := 4, ground := Ground.phase }, { on := 5, ground := Ground.phase }, { on := 6, ground := Ground.phase }, { on := 7, ground := Ground.phase }, { on := 8, ground := Ground.phase }, { on := 9, ground := Ground.phase }, { on := 10, ground := Ground.phase }, { on := 11, ground := Ground.phase }, { on := 12, ground := Ground.phase }, { on := 13, ground := Ground.phase }, { on := 14, ground := Ground.phase }, { on := 15, ground := Ground.phase }, { on := 16, ground := Ground.phase }], guard := none }) rfl (fun K hK => ?_) AllReadyH.nil
        go_simp
        refine hK.out _ _ ⟨cell_alloc_keep (cell_alloc_keep hHeld.1 _) _, cell_alloc_keep (cell_alloc_keep hHeld.2.1 _) _, cell_alloc_keep (cell_alloc_keep hHeld.2.2.1 _) _, cell_alloc_keep (cell_alloc_keep hHeld.2.2.2 _) _⟩ (fun _ => ?_)
        clear hK K
        (try simp only [Act.put, List.setIfInBounds_toArray, List.set_cons_zero, List.set_cons_succ])
        refine wpAnyH_done (by kernel_rfl) ?_ _
        go_wp2_with fail; go_meet
        case rel => exact ⟨_, _, rfl, hp_old_at (hp_new_at _ _ (by rw [hs0])), hp_new_at _ _ (by simp [hs0]), by omega, by omega, by (repeat (first | exact Below.refl _ _ | assumption | refine below_alloc ?_ _ | refine Below.drew ?_ | refine below_drewN_ ?_ _ | refine below_step ?_ (by assumption)))⟩
  case rest =>
    obtain ⟨P, A, rfl, hP, hA, hPl, hAl, hbw⟩ := hcut
    clear g0 g3 g4 r16 r17
    generalize wc = w1 at *
    have hPA : ¬ P = A := fun e => by rw [e, hA] at hP; simp at hP
    have hO := own_zeros hA hAl (by omega)
    have HRS := Lib.hid (show (madeP bc r ks x).rights = ((x.rights % 2 ^ r : Nat) : Int) ∧ (madeP bc r ks x).side = ((x.side % 2 : Nat) : Int) from ⟨rfl, rfl⟩)
    generalize ((x.rights % 2 ^ r : Nat) : Int) = zr at *
    generalize ((x.side % 2 : Nat) : Int) = zs at *
    have HG0 := Lib.hid hG0
    have HR0 := Lib.hid hR0
    have HS0 := Lib.hid hs0
    have hw3 : w.heap.size + 2 < w0.heap.size := by omega
    clear hG0 hR0 hs0 hA
    go_wp2_with fail
    go_loopw [6] (fun i wr => ∃ n : Nat, n ≤ 6 ∧ i = .int .i64 n ∧ wr.heap[P]? = some (.cells #[.slice (some ⟨A, 0, none⟩) bc bc, .slice none 0 0, .slice none 0 0, .int .i64 zr, .int .i64 zs] 32 (0, 0)) ∧ OwnInts w0.heap.size wr (.slice (some ⟨A, 0, none⟩) bc bc) (atTo bc ks.length x n) ∧ Below w0.heap.size w0 wr) (fun i _ => 6 - (intOf i).toNat)
    case atStart => exact ⟨0, by omega, rfl, hP, hO, hbw⟩
    case round =>
      clear hP hO hbw
      obtain ⟨n, hn, rfl, hP, hO, hbw⟩ := hrel
      generalize wr = w2 at *
      have hG := (hbw.block w.heap.size (by omega)).trans HG0.out
      have hR := (hbw.block (w.heap.size + 1) (by omega)).trans HR0.out
      by_cases hlt : n < 6
      · skip
        have t1 : decide ((n : Int) < 6) = true := by simp; omega
        have g0 : w2.cell? ⟨w.heap.size, 0, none⟩ = some (.int .i64 (bc : Int)) := bx_cell hG 0 rfl
        have g3 : w2.cell? ⟨w.heap.size, 3, none⟩ = some (.slice ak ks.length ck) := bx_cell hG 3 rfl
        have rc := bx_cell hR n (x.get_cell n hlt)
        have rk := bx_cell hR (6 + n) (x.get_kind n hlt)
        have p0 : w2.cell? ⟨P, 0, none⟩ = some (.slice (some ⟨A, 0, none⟩) bc bc) := bx_cell hP 0 rfl
        have hsz := hbw.size
        have hAT := atTo_len bc ks.length x n
        have HST := Lib.hid (show atTo bc ks.length x (n + 1) = if x.cell n % (bc + 1) < bc then (atTo bc ks.length x n).set (x.cell n % (bc + 1)) (1 + 2 * ((x.kind n % ks.length : Nat) : Int) + ((n % 2 : Nat) : Int)) else atTo bc ks.length x n from rfl)
        have hc8 := hx.cell n
        have hk8 := hx.kind n
        have e1 : ((x.cell n : Nat) : Int).tmod ((bc : Int) + 1) = ((x.cell n % (bc + 1) : Nat) : Int) := rfl
        have l1 := Nat.mod_lt (x.cell n) (show 0 < bc + 1 by omega)
        have e2 : ((x.kind n : Nat) : Int).tmod ((ks.length : Nat) : Int) = ((x.kind n % ks.length : Nat) : Int) := rfl
        have l2 := Nat.mod_lt (x.kind n) (show 0 < ks.length by omega)
        have e3 : ((n : Nat) : Int).tmod 2 = ((n % 2 : Nat) : Int) := rfl
        have l3 := Nat.mod_lt n (show 0 < 2 by omega)
        have i1 := i64_id (x.cell n) (by omega)
        have i2 := i64_id (x.kind n) (by omega)
        generalize x.cell n % (bc + 1) = c at *
        generalize x.kind n % ks.length = y at *
        generalize n % 2 = m at *
        generalize x.cell n = xc at *
        generalize x.kind n = xk at *
        generalize atTo bc ks.length x n = L at *
        have i3 : IntKind.i64.wrap ((bc : Int) + 1) = (bc : Int) + 1 := IntWalk.i64_in _ (by omega)
        have i4 : ¬ ((bc : Int) + 1 = 0) := by omega
        have i5 : IntKind.i64.wrap (2 * (y : Int)) = 2 * (y : Int) := IntWalk.i64_in _ (by omega)
        have i6 : IntKind.i64.wrap (1 + 2 * (y : Int)) = 1 + 2 * (y : Int) := IntWalk.i64_in _ (by omega)
        have i7 : IntKind.i64.wrap (1 + 2 * (y : Int) + (m : Int)) = 1 + 2 * (y : Int) + (m : Int) := IntWalk.i64_in _ (by omega)
        have i8 := i64_id c (by omega)
        have i9 := i64_id y (by omega)
        have i10 := i64_id m (by omega)
        have i11 : ¬ ((ks.length : Int) = 0) := by omega
        have i12 : ¬ (ks = []) := by intro h; rw [h] at hks; simp at hks
        have t2 : (0 : Int) ≤ (n : Int) := by omega
        have t3 : (n : Int) < 6 := by omega
        go_upto_region 5 with (fail)
        refine wp_region_held_drew (S := fun W => W.cell? ⟨w.heap.size, 0, none⟩ = some (.int .i64 (bc : Int)) ∧ W.cell? ⟨w.heap.size + 1, n, none⟩ = some (.int .u8 xc)) (by kernel_rfl) ⟨g0, rc⟩ (fun hHeld => ?_)
        refine wpAnyH_take (i := 0) (oi := { dst := some 30, op := Op.move (Operand.tmp 6), type := 3, pos := "ref.go:269", after := #[], guard := none }) (v := ?_) rfl (by kernel_rfl) (by kernel_rfl) (by kernel_rfl) (fun _ _ _ h => h) (Or.inl ⟨by rfl, ?_⟩) (by assumption) ?_
        rotate_left
        · ((intro w hSw; (try dsimp only at hSw); go_simp); try with_reducible rfl)
        (try simp only [Act.put, List.setIfInBounds_toArray, List.set_cons_zero, List.set_cons_succ])
        refine wpAnyH_take (i := 1) (oi := { dst := some 31, op := Op.fieldAddr 61 (Operand.tmp 3) 0, type := 0, pos := "ref.go:269", after := #[], guard := none }) (v := ?_) rfl (by kernel_rfl) (by kernel_rfl) (by kernel_rfl) (fun _ _ _ h => h) (Or.inl ⟨by rfl, ?_⟩) (by assumption) ?_
        rotate_left
        · ((intro w hSw; (try dsimp only at hSw); go_simp); try with_reducible rfl)
        (try simp only [Act.put, List.setIfInBounds_toArray, List.set_cons_zero, List.set_cons_succ])
        refine wpAnyH_take (i := 2) (oi := { dst := some 32, op := Op.indexAddr 25 (Operand.tmp 31) (Operand.tmp 30), type := 0, pos := "ref.go:269", after := #[{ on := 1, ground := Ground.data }, { on := 0, ground := Ground.data }], guard := none }) (v := ?_) rfl (by kernel_rfl) (by kernel_rfl) (by kernel_rfl) (fun _ _ _ h => h) (Or.inl ⟨by rfl, ?_⟩) (by assumption) ?_
        rotate_left
        · ((intro w hSw; (try dsimp only at hSw); go_simp); try with_reducible rfl)
        (try simp only [Act.put, List.setIfInBounds_toArray, List.set_cons_zero, List.set_cons_succ])
        refine wpAnyH_take (i := 3) (oi := { dst := some 33, op := Op.load 5 (Operand.tmp 32), type := 5, pos := "ref.go:269", after := #[{ on := 2, ground := Ground.data }], guard := none }) (v := ?_) rfl (by kernel_rfl) (by kernel_rfl) (by kernel_rfl) (fun _ _ _ h => h) (Or.inl ⟨by rfl, ?_⟩) (by assumption) ?_
        rotate_left
        · ((intro w hSw; (try dsimp only at hSw); go_simp); try with_reducible rfl)
        (try simp only [Act.put, List.setIfInBounds_toArray, List.set_cons_zero, List.set_cons_succ])
        refine wpAnyH_take (i := 4) (oi := { dst := some 34, op := Op.convert 5 3 (Operand.tmp 33), type := 3, pos := "ref.go:269", after := #[{ on := 3, ground := Ground.data }], guard := none }) (v := ?_) rfl (by kernel_rfl) (by kernel_rfl) (by kernel_rfl) (fun _ _ _ h => h) (Or.inl ⟨by rfl, ?_⟩) (by assumption) ?_
        rotate_left
        · ((intro w hSw; (try dsimp only at hSw); go_simp); try with_reducible rfl)
        (try simp only [Act.put, List.setIfInBounds_toArray, List.set_cons_zero, List.set_cons_succ])
        refine wpAnyH_take (i := 5) (oi := { dst := some 35, op := Op.fieldAddr 41 (Operand.tmp 2) 0, type := 0, pos := "ref.go:269", after := #[], guard := none }) (v := ?_) rfl (by kernel_rfl) (by kernel_rfl) (by kernel_rfl) (fun _ _ _ h => h) (Or.inl ⟨by rfl, ?_⟩) (by assumption) ?_
        rotate_left
        · ((intro w hSw; (try dsimp only at hSw); go_simp); try with_reducible rfl)
        (try simp only [Act.put, List.setIfInBounds_toArray, List.set_cons_zero, List.set_cons_succ])
        refine wpAnyH_take (i := 6) (oi := { dst := some 36, op := Op.fieldAddr 37 (Operand.tmp 35) 0, type := 0, pos := "ref.go:269", after := #[{ on := 5, ground := Ground.data }], guard := none }) (v := ?_) rfl (by kernel_rfl) (by kernel_rfl) (by kernel_rfl) (fun _ _ _ h => h) (Or.inl ⟨by rfl, ?_⟩) (by assumption) ?_
        rotate_left
        · ((intro w hSw; (try dsimp only at hSw); go_simp); try with_reducible rfl)
        (try simp only [Act.put, List.setIfInBounds_toArray, List.set_cons_zero, List.set_cons_succ])
        refine wpAnyH_take (i := 7) (oi := { dst := some 37, op := Op.load 3 (Operand.tmp 36), type := 3, pos := "ref.go:269", after := #[{ on := 6, ground := Ground.data }], guard := none }) (v := ?_) rfl (by kernel_rfl) (by kernel_rfl) (by kernel_rfl) (fun _ _ _ h => h) (Or.inl ⟨by rfl, ?_⟩) (by assumption) ?_
        rotate_left
        · ((intro w hSw; (try dsimp only at hSw); go_simp); try with_reducible rfl)
        (try simp only [Act.put, List.setIfInBounds_toArray, List.set_cons_zero, List.set_cons_succ])
        refine wpAnyH_take (i := 8) (oi := { dst := some 38, op := Op.binOp BinOp.add 3 (Operand.tmp 37) (Operand.const (Value.int IntKind.i64 1)) 3, type := 3, pos := "ref.go:269", after := #[{ on := 7, ground := Ground.data }], guard := none }) (v := ?_) rfl (by kernel_rfl) (by kernel_rfl) (by kernel_rfl) (fun _ _ _ h => h) (Or.inl ⟨by rfl, ?_⟩) (by assumption) ?_
        rotate_left
        · ((intro w hSw; (try dsimp only at hSw); go_simp); try with_reducible rfl)
        (try simp only [Act.put, List.setIfInBounds_toArray, List.set_cons_zero, List.set_cons_succ])
        refine wpAnyH_take (i := 9) (oi := { dst := some 39, op := Op.binOp BinOp.rem 3 (Operand.tmp 34) (Operand.tmp 38) 3, type := 3, pos := "ref.go:269", after := #[{ on := 4, ground := Ground.data }, { on := 8, ground := Ground.data }], guard := none }) (v := ?_) rfl (by kernel_rfl) (by kernel_rfl) (by kernel_rfl) (fun _ _ _ h => h) (Or.inl ⟨by rfl, ?_⟩) (by assumption) ?_
        rotate_left
        · ((intro w hSw; (try dsimp only at hSw); go_simp); try with_reducible rfl)
        (try simp only [Act.put, List.setIfInBounds_toArray, List.set_cons_zero, List.set_cons_succ])
        refine wpAnyH_ready (rs := [10]) (by kernel_rfl) (by simp) ?_
        refine AllReadyH.cons (o := { dst := some 7, op := Op.assign (Operand.tmp 39), type := 3, pos := "ref.go:269", after := #[{ on := 9, ground := Ground.data }, { on := 0, ground := Ground.phase }, { on := 1, ground := Ground.phase }, { on := 2, ground := Ground.phase }, { on := 3, ground := Ground.phase }, { on := 4, ground := Ground.phase }, { on := 5, ground := Ground.phase }, { on := 6, ground := Ground.phase }, { on := 7, ground := Ground.phase }, { on := 8, ground := Ground.phase }, { on := 9, ground := Ground.phase }], guard := none }) rfl (fun K hK => ?_) AllReadyH.nil
        go_simp
        refine hK.out _ _ hHeld (fun _ => ?_)
        clear hK K
        (try simp only [Act.put, List.setIfInBounds_toArray, List.set_cons_zero, List.set_cons_succ])
        refine wpAnyH_done (by kernel_rfl) ?_ _
        have hP3 : w2.drew.heap[P]? = some (.cells #[.slice (some ⟨A, 0, none⟩) bc bc, .slice none 0 0, .slice none 0 0, .int .i64 zr, .int .i64 zs] 32 (0, 0)) := hP
        have hO3 := hO.drew_
        have hb3 := hbw.drew
        have g33 : w2.drew.cell? ⟨w.heap.size, 3, none⟩ = some (.slice ak ks.length ck) := g3
        have rk3 : w2.drew.cell? ⟨w.heap.size + 1, 6 + n, none⟩ = some (.int .u8 xk) := rk
        have p03 : w2.drew.cell? ⟨P, 0, none⟩ = some (.slice (some ⟨A, 0, none⟩) bc bc) := p0
        have g03 := hHeld.1
        clear hP hO hbw g0 g3 rc rk p0 hHeld hG hR hsz
        generalize w2.drew = w3 at *
        have hsz := hb3.size
        by_cases hcb : c < bc
        · have u1 : decide (c < bc) = true := by simpa using hcb
          have u1' : decide ((c : Int) < (bc : Int)) = true := by simp; omega
          have u2 : decide (0 < ks.length) = true := by simp; omega
          have u3 : (0 : Int) ≤ (c : Int) := by omega
          have u4 : (c : Int) < (bc : Int) := by omega
          rw [if_pos hcb] at HST
          obtain ⟨z1, z2⟩ := hO3.cellAt (j := c) (by omega)
          go_upto_region 7 with (fail)
          refine wp_region_held_drew (S := fun W => W.cell? ⟨P, 0, none⟩ = some (.slice (some ⟨A, 0, none⟩) bc bc) ∧ W.cell? ⟨w.heap.size + 1, 6 + n, none⟩ = some (.int .u8 xk) ∧ W.cell? ⟨w.heap.size, 3, none⟩ = some (.slice ak ks.length ck)) (by kernel_rfl) ⟨p03, rk3, g33⟩ (fun hHeld => ?_)
          refine wpAnyH_take (i := 0) (oi := { dst := some 51, op := Op.fieldAddr 32 (Operand.tmp 5) 0, type := 0, pos := "ref.go:271", after := #[], guard := none }) (v := ?_) rfl (by kernel_rfl) (by kernel_rfl) (by kernel_rfl) (fun _ _ _ h => h) (Or.inl ⟨by rfl, ?_⟩) (by assumption) ?_
          rotate_left
          · ((intro w hSw; (try dsimp only at hSw); go_simp); try with_reducible rfl)
          (try simp only [Act.put, List.setIfInBounds_toArray, List.set_cons_zero, List.set_cons_succ])
          refine wpAnyH_take (i := 1) (oi := { dst := some 52, op := Op.load 29 (Operand.tmp 51), type := 29, pos := "ref.go:271", after := #[{ on := 0, ground := Ground.data }], guard := none }) (v := ?_) rfl (by kernel_rfl) (by kernel_rfl) (by kernel_rfl) (fun _ _ _ h => h) (Or.inl ⟨by rfl, ?_⟩) (by assumption) ?_
          rotate_left
          · ((intro w hSw; (try dsimp only at hSw); go_simp); try with_reducible rfl)
          (try simp only [Act.put, List.setIfInBounds_toArray, List.set_cons_zero, List.set_cons_succ])
          refine wpAnyH_take (i := 2) (oi := { dst := some 53, op := Op.move (Operand.tmp 7), type := 3, pos := "ref.go:271", after := #[], guard := none }) (v := ?_) rfl (by kernel_rfl) (by kernel_rfl) (by kernel_rfl) (fun _ _ _ h => h) (Or.inl ⟨by rfl, ?_⟩) (by assumption) ?_
          rotate_left
          · ((intro w hSw; (try dsimp only at hSw); go_simp); try with_reducible rfl)
          (try simp only [Act.put, List.setIfInBounds_toArray, List.set_cons_zero, List.set_cons_succ])
          refine wpAnyH_take (i := 3) (oi := { dst := some 54, op := Op.move (Operand.tmp 6), type := 3, pos := "ref.go:271", after := #[], guard := none }) (v := ?_) rfl (by kernel_rfl) (by kernel_rfl) (by kernel_rfl) (fun _ _ _ h => h) (Or.inl ⟨by rfl, ?_⟩) (by assumption) ?_
          rotate_left
          · ((intro w hSw; (try dsimp only at hSw); go_simp); try with_reducible rfl)
          (try simp only [Act.put, List.setIfInBounds_toArray, List.set_cons_zero, List.set_cons_succ])
          refine wpAnyH_take (i := 4) (oi := { dst := some 55, op := Op.fieldAddr 61 (Operand.tmp 3) 1, type := 0, pos := "ref.go:271", after := #[], guard := none }) (v := ?_) rfl (by kernel_rfl) (by kernel_rfl) (by kernel_rfl) (fun _ _ _ h => h) (Or.inl ⟨by rfl, ?_⟩) (by assumption) ?_
          rotate_left
          · ((intro w hSw; (try dsimp only at hSw); go_simp); try with_reducible rfl)
          (try simp only [Act.put, List.setIfInBounds_toArray, List.set_cons_zero, List.set_cons_succ])
          refine wpAnyH_take (i := 5) (oi := { dst := some 56, op := Op.indexAddr 25 (Operand.tmp 55) (Operand.tmp 54), type := 0, pos := "ref.go:271", after := #[{ on := 4, ground := Ground.data }, { on := 3, ground := Ground.data }], guard := none }) (v := ?_) rfl (by kernel_rfl) (by kernel_rfl) (by kernel_rfl) (fun _ _ _ h => h) (Or.inl ⟨by rfl, ?_⟩) (by assumption) ?_
          rotate_left
          · ((intro w hSw; (try dsimp only at hSw); go_simp); try with_reducible rfl)
          (try simp only [Act.put, List.setIfInBounds_toArray, List.set_cons_zero, List.set_cons_succ])
          refine wpAnyH_take (i := 6) (oi := { dst := some 57, op := Op.load 5 (Operand.tmp 56), type := 5, pos := "ref.go:271", after := #[{ on := 5, ground := Ground.data }], guard := none }) (v := ?_) rfl (by kernel_rfl) (by kernel_rfl) (by kernel_rfl) (fun _ _ _ h => h) (Or.inl ⟨by rfl, ?_⟩) (by assumption) ?_
          rotate_left
          · ((intro w hSw; (try dsimp only at hSw); go_simp); try with_reducible rfl)
          (try simp only [Act.put, List.setIfInBounds_toArray, List.set_cons_zero, List.set_cons_succ])
          refine wpAnyH_take (i := 7) (oi := { dst := some 58, op := Op.convert 5 3 (Operand.tmp 57), type := 3, pos := "ref.go:271", after := #[{ on := 6, ground := Ground.data }], guard := none }) (v := ?_) rfl (by kernel_rfl) (by kernel_rfl) (by kernel_rfl) (fun _ _ _ h => h) (Or.inl ⟨by rfl, ?_⟩) (by assumption) ?_
          rotate_left
          · ((intro w hSw; (try dsimp only at hSw); go_simp); try with_reducible rfl)
          (try simp only [Act.put, List.setIfInBounds_toArray, List.set_cons_zero, List.set_cons_succ])
          refine wpAnyH_take (i := 8) (oi := { dst := some 59, op := Op.fieldAddr 41 (Operand.tmp 2) 1, type := 0, pos := "ref.go:271", after := #[], guard := none }) (v := ?_) rfl (by kernel_rfl) (by kernel_rfl) (by kernel_rfl) (fun _ _ _ h => h) (Or.inl ⟨by rfl, ?_⟩) (by assumption) ?_
          rotate_left
          · ((intro w hSw; (try dsimp only at hSw); go_simp); try with_reducible rfl)
          (try simp only [Act.put, List.setIfInBounds_toArray, List.set_cons_zero, List.set_cons_succ])
          refine wpAnyH_take (i := 9) (oi := { dst := some 60, op := Op.load 38 (Operand.tmp 59), type := 38, pos := "ref.go:271", after := #[{ on := 8, ground := Ground.data }], guard := none }) (v := ?_) rfl (by kernel_rfl) (by kernel_rfl) (by kernel_rfl) (fun _ _ _ h => h) (Or.inl ⟨by rfl, ?_⟩) (by assumption) ?_
          rotate_left
          · ((intro w hSw; (try dsimp only at hSw); go_simp); try with_reducible rfl)
          (try simp only [Act.put, List.setIfInBounds_toArray, List.set_cons_zero, List.set_cons_succ])
          refine wpAnyH_take (i := 10) (oi := { dst := some 61, op := Op.call { callee := Callee.builtin Builtin.len, args := #[Operand.tmp 60], argTypes := #[38] }, type := 3, pos := "ref.go:271", after := #[{ on := 9, ground := Ground.data }], guard := none }) (v := ?_) rfl (by kernel_rfl) (by kernel_rfl) (by kernel_rfl) (fun _ _ _ h => h) (Or.inl ⟨by rfl, ?_⟩) (by assumption) ?_
          rotate_left
          · ((intro w hSw; (try dsimp only at hSw); go_simp); try with_reducible rfl)
          (try simp only [Act.put, List.setIfInBounds_toArray, List.set_cons_zero, List.set_cons_succ])
          refine wpAnyH_take (i := 11) (oi := { dst := some 62, op := Op.binOp BinOp.rem 3 (Operand.tmp 58) (Operand.tmp 61) 3, type := 3, pos := "ref.go:271", after := #[{ on := 7, ground := Ground.data }, { on := 10, ground := Ground.data }], guard := none }) (v := ?_) rfl (by kernel_rfl) (by kernel_rfl) (by kernel_rfl) (fun _ _ _ h => h) (Or.inl ⟨by rfl, ?_⟩) (by assumption) ?_
          rotate_left
          · ((intro w hSw; (try dsimp only at hSw); go_simp); try with_reducible rfl)
          (try simp only [Act.put, List.setIfInBounds_toArray, List.set_cons_zero, List.set_cons_succ])
          refine wpAnyH_take (i := 12) (oi := { dst := some 63, op := Op.binOp BinOp.mul 3 (Operand.const (Value.int IntKind.i64 2)) (Operand.tmp 62) 3, type := 3, pos := "ref.go:271", after := #[{ on := 11, ground := Ground.data }], guard := none }) (v := ?_) rfl (by kernel_rfl) (by kernel_rfl) (by kernel_rfl) (fun _ _ _ h => h) (Or.inl ⟨by rfl, ?_⟩) (by assumption) ?_
          rotate_left
          · ((intro w hSw; (try dsimp only at hSw); go_simp); try with_reducible rfl)
          (try simp only [Act.put, List.setIfInBounds_toArray, List.set_cons_zero, List.set_cons_succ])
          refine wpAnyH_take (i := 13) (oi := { dst := some 64, op := Op.binOp BinOp.add 3 (Operand.const (Value.int IntKind.i64 1)) (Operand.tmp 63) 3, type := 3, pos := "ref.go:271", after := #[{ on := 12, ground := Ground.data }], guard := none }) (v := ?_) rfl (by kernel_rfl) (by kernel_rfl) (by kernel_rfl) (fun _ _ _ h => h) (Or.inl ⟨by rfl, ?_⟩) (by assumption) ?_
          rotate_left
          · ((intro w hSw; (try dsimp only at hSw); go_simp); try with_reducible rfl)
          (try simp only [Act.put, List.setIfInBounds_toArray, List.set_cons_zero, List.set_cons_succ])
          refine wpAnyH_take (i := 14) (oi := { dst := some 65, op := Op.move (Operand.tmp 6), type := 3, pos := "ref.go:271", after := #[], guard := none }) (v := ?_) rfl (by kernel_rfl) (by kernel_rfl) (by kernel_rfl) (fun _ _ _ h => h) (Or.inl ⟨by rfl, ?_⟩) (by assumption) ?_
          rotate_left
          · ((intro w hSw; (try dsimp only at hSw); go_simp); try with_reducible rfl)
          (try simp only [Act.put, List.setIfInBounds_toArray, List.set_cons_zero, List.set_cons_succ])
          refine wpAnyH_take (i := 15) (oi := { dst := some 66, op := Op.binOp BinOp.rem 3 (Operand.tmp 65) (Operand.const (Value.int IntKind.i64 2)) 3, type := 3, pos := "ref.go:271", after := #[{ on := 14, ground := Ground.data }], guard := none }) (v := ?_) rfl (by kernel_rfl) (by kernel_rfl) (by kernel_rfl) (fun _ _ _ h => h) (Or.inl ⟨by rfl, ?_⟩) (by assumption) ?_
          rotate_left
          · ((intro w hSw; (try dsimp only at hSw); go_simp); try with_reducible rfl)
          (try simp only [Act.put, List.setIfInBounds_toArray, List.set_cons_zero, List.set_cons_succ])
          refine wpAnyH_take (i := 16) (oi := { dst := some 67, op := Op.binOp BinOp.add 3 (Operand.tmp 64) (Operand.tmp 66) 3, type := 3, pos := "ref.go:271", after := #[{ on := 13, ground := Ground.data }, { on := 15, ground := Ground.data }], guard := none }) (v := ?_) rfl (by kernel_rfl) (by kernel_rfl) (by kernel_rfl) (fun _ _ _ h => h) (Or.inl ⟨by rfl, ?_⟩) (by assumption) ?_
          rotate_left
          · ((intro w hSw; (try dsimp only at hSw); go_simp); try with_reducible rfl)
          (try simp only [Act.put, List.setIfInBounds_toArray, List.set_cons_zero, List.set_cons_succ])
          refine wpAnyH_take (i := 17) (oi := { dst := some 68, op := Op.indexAddr 29 (Operand.tmp 52) (Operand.tmp 53), type := 0, pos := "ref.go:271", after := #[{ on := 1, ground := Ground.data }, { on := 2, ground := Ground.data }, { on := 0, ground := Ground.phase }, { on := 1, ground := Ground.phase }, { on := 2, ground := Ground.phase }, { on := 3, ground := Ground.phase }, { on := 4, ground := Ground.phase }, { on := 5, ground := Ground.phase }, { on := 6, ground := Ground.phase }, { on := 7, ground := Ground.phase }, { on := 8, ground := Ground.phase }, { on := 9, ground := Ground.phase }, { on := 10, ground := Ground.phase }, { on := 11, ground := Ground.phase }, { on := 12, ground := Ground.phase }, { on := 13, ground := Ground.phase }, { on := 14, ground := Ground.phase }, { on := 15, ground := Ground.phase }, { on := 16, ground := Ground.phase }], guard := none }) (v := ?_) rfl (by kernel_rfl) (by kernel_rfl) (by kernel_rfl) (fun _ _ _ h => h) (Or.inl ⟨by rfl, ?_⟩) (by assumption) ?_
          rotate_left
          · ((intro w hSw; (try dsimp only at hSw); go_simp); try with_reducible rfl)
          (try simp only [Act.put, List.setIfInBounds_toArray, List.set_cons_zero, List.set_cons_succ])
          refine wpAnyH_ready (rs := [18]) (by kernel_rfl) (by simp) ?_
          refine AllReadyH.cons (o := { dst := none, op := Op.store 3 (Operand.tmp 68) (Operand.tmp 67), type := 0, pos := "ref.go:271", after := #[{ on := 17, ground := Ground.data }, { on := 16, ground := Ground.data }, { on := 0, ground := Ground.phase }, { on := 1, ground := Ground.phase }, { on := 2, ground := Ground.phase }, { on := 3, ground := Ground.phase }, { on := 4, ground := Ground.phase }, { on := 5, ground := Ground.phase }, { on := 6, ground := Ground.phase }, { on := 7, ground := Ground.phase }, { on := 8, ground := Ground.phase }, { on := 9, ground := Ground.phase }, { on := 10, ground := Ground.phase }, { on := 11, ground := Ground.phase }, { on := 12, ground := Ground.phase }, { on := 13, ground := Ground.phase }, { on := 14, ground := Ground.phase }, { on := 15, ground := Ground.phase }, { on := 16, ground := Ground.phase }], guard := none }) rfl (fun K hK => ?_) AllReadyH.nil
          go_simp
          refine hK.out _ _ ⟨(World.cell?_setCell_far _ _ _ _ (by simp; omega)).trans hHeld.1, (World.cell?_setCell_far _ _ _ _ (by simp; omega)).trans hHeld.2.1, (World.cell?_setCell_far _ _ _ _ (by simp; omega)).trans hHeld.2.2⟩ (fun _ => ?_)
          clear hK K
          (try simp only [Act.put, List.setIfInBounds_toArray, List.set_cons_zero, List.set_cons_succ])
          refine wpAnyH_done (by kernel_rfl) ?_ _
          have hal : Alters (fun b => b = A) w3 (w3.setCell ⟨A, c, none⟩ (.int .i64 (1 + 2 * (y : Int) + (m : Int)))).drew := (alters_cell w3 A c _).drew_2
          have HP := Lib.hid ((hal.block P (bx_lt hP3) hPA).trans hP3)
          have HO := Lib.hid (OwnInts.drew_ (hO3.set c (1 + 2 * (y : Int) + (m : Int))))
          have hb4 := hb3.trans (hal.below hsz (fun k hk => by omega))
          clear hP3 hO3 hcb hal z1 z2 hHeld p03 rk3 g33 g03
          generalize (w3.setCell ⟨A, c, none⟩ (.int .i64 (1 + 2 * (y : Int) + (m : Int)))).drew = w4 at *
          go_wp2_with fail
          go_roundw
          case rel => exact ⟨n + 1, by omega, by go_num, HP.out, by rw [HST.out]; exact HO.out, hb4⟩
          case measure => simp [intOf]; omega
        · have u1 : decide (c < bc) = false := by simpa using hcb
          have u1' : decide ((c : Int) < (bc : Int)) = false := by simp; omega
          rw [if_neg hcb] at HST
          have HP := Lib.hid hP3
          have HO := Lib.hid hO3
          clear hP3 hO3 hcb
          go_wp2_with fail
          go_roundw
          case rel => exact ⟨n + 1, by omega, by go_num, HP.out, by rw [HST.out]; exact HO.out, hb3⟩
          case measure => simp [intOf]; omega
      · have hn6 : n = 6 := by omega
        rw [hn6] at hO
        clear hn6
        have t1 : decide ((n : Int) < 6) = false := by simp; omega
        have HAT := Lib.hid (show (madeP bc r ks x).cells = atTo bc ks.length x 6 from rfl)
        have hATl := atTo_len bc ks.length x 6
        generalize atTo bc ks.length x 6 = AT at *
        have H0D := Lib.hid (show (madeP bc r ks x).h0 = handTo ks x 0 ks.length from rfl)
        have H1D := Lib.hid (show (madeP bc r ks x).h1 = handTo ks x 1 ks.length from rfl)
        have hH := handTo_len ks x
        generalize hnk : ks.length = nk at *
        have HNK := Lib.hid hnk
        clear hnk hG hR
        go_wp2_with fail
        go_loopw [8] (fun i wr => ∃ (s : Nat) (v0 v1 : Value), s ≤ 2 ∧ i = .int .i64 s ∧ wr.heap[P]? = some (.cells #[.slice (some ⟨A, 0, none⟩) bc bc, v0, v1, .int .i64 zr, .int .i64 zs] 32 (0, 0)) ∧ OwnInts w0.heap.size wr (.slice (some ⟨A, 0, none⟩) bc bc) AT ∧ HandSt w0.heap.size A nk wr ks x s v0 v1 ∧ Below w0.heap.size w0 wr) (fun i _ => 2 - (intOf i).toNat)
        case atStart => exact ⟨0, _, _, by omega, rfl, hP, hO, .inl ⟨rfl, rfl, rfl⟩, hbw⟩
        case round =>
          clear hP hO hbw
          obtain ⟨s, v0, v1, hs2, rfl, hP, hO, hHS, hbw⟩ := hrel
          generalize wr = w3 at *
          have hG := (hbw.block w.heap.size (by omega)).trans HG0.out
          have hR := (hbw.block (w.heap.size + 1) (by omega)).trans HR0.out
          by_cases hlt : s < 2
          · have t2 : decide ((s : Int) < 2) = true := by simp; omega
            have g3 : w3.cell? ⟨w.heap.size, 3, none⟩ = some (.slice ak nk ck) := bx_cell hG 3 rfl
            have hsz := hbw.size
            have hPl3 := bx_lt hP
            have hPa : (w3.alloc (.cells (zerosA nk) 3)).heap[P]? = some (.cells #[.slice (some ⟨A, 0, none⟩) bc bc, v0, v1, .int .i64 zr, .int .i64 zs] 32 (0, 0)) := hp_old_at hP
            have hBa : (w3.alloc (.cells (zerosA nk) 3)).heap[w3.heap.size]? = some (.cells (zerosA nk) 3 (0, 0)) := World.alloc_heap_new _ _
            obtain ⟨vs, hvs⟩ : ∃ vs, (#[.slice (some ⟨A, 0, none⟩) bc bc, v0, v1, .int .i64 zr, .int .i64 zs] : Array Value)[1 + s]? = some vs := by
              rcases (show s = 0 ∨ s = 1 by omega) with rfl | rfl
              · exact ⟨v0, rfl⟩
              · exact ⟨v1, rfl⟩
            have z1 := bx_cell hPa (1 + s) hvs
            have z2 := bx_frozen hPa (1 + s)
            have t3 : (0 : Int) ≤ (s : Int) := by omega
            have t4 : (s : Int) < 2 := by omega
            have hnk2 : nk ≤ 1000 := by omega
            go_upto_block 4 with (at_make; go_loud (refine wpList_zeros rfl (.tmp 76) (.tmp 76) rfl nk hnk2 rfl rfl ?_))
            have hPs := bx_set hP (1 + s) (.slice (some ⟨w3.heap.size, 0, none⟩) nk nk)
            have hsz5 : (w3.setCell ⟨P, 1 + s, none⟩ (.slice (some ⟨w3.heap.size, 0, none⟩) nk nk)).heap.size = w3.heap.size := by simp [World.setCell]
            have hP5 : ((w3.setCell ⟨P, 1 + s, none⟩ (.slice (some ⟨w3.heap.size, 0, none⟩) nk nk)).alloc (.cells (zerosA nk) 3)).heap[P]? = _ := hp_old_at hPs
            have hB5 : ((w3.setCell ⟨P, 1 + s, none⟩ (.slice (some ⟨w3.heap.size, 0, none⟩) nk nk)).alloc (.cells (zerosA nk) 3)).heap[w3.heap.size]? = some (.cells (zerosA nk) 3 (0, 0)) := hp_new_at _ _ hsz5.symm
            have al5 : Alters (fun b => b = P) w3 ((w3.setCell ⟨P, 1 + s, none⟩ (.slice (some ⟨w3.heap.size, 0, none⟩) nk nk)).alloc (.cells (zerosA nk) 3)) := (alters_cell _ _ _ _).trans (Alters.of_below (below_alloc (Below.refl _ _) _))
            have hAl3 := (own_lt hO).2
            have hBl5 := bx_lt hB5
            have hO5 := own_zeros hB5 (show w0.heap.size ≤ w3.heap.size from hsz) hnk2
            have hnx := fun W6 r d (al : Alters (fun b => b = P ∨ b = w3.heap.size) w3 W6) hO => HandSt.next (a := .slice (some ⟨A, 0, none⟩) bc bc) (r := r) (d := d) (W6 := W6) hHS hlt al hP hAl3 hO
            have HNX := Lib.hid hnx
            have HO3 := Lib.hid hO
            have HP3 := Lib.hid hP
            have HAL5 := Lib.hid al5
            have HBW3 := Lib.hid hbw
            clear z1 z2 hPa hBa hPs hsz5 hvs hP hO hHS hnx g3 al5 hbw hG hR
            generalize (w3.setCell ⟨P, 1 + s, none⟩ (.slice (some ⟨w3.heap.size, 0, none⟩) nk nk)).alloc (.cells (zerosA nk) 3) = w5 at *
            have hc5 : ((#[.slice (some ⟨A, 0, none⟩) bc bc, v0, v1, .int .i64 zr, .int .i64 zs] : Array Value).setIfInBounds (1 + s) (.slice (some ⟨w3.heap.size, 0, none⟩) nk nk))[1 + s]? = some (.slice (some ⟨w3.heap.size, 0, none⟩) nk nk) := by rcases (show s = 0 ∨ s = 1 by omega) with rfl | rfl <;> rfl
            have HHZ := Lib.hid (by rw [← HNK.out]; exact handTo_zero ks x s : handTo ks x s 0 = List.replicate nk 0)
            go_wp2_with fail
            go_loopw [9] (fun i wr => ∃ k : Nat, k ≤ nk ∧ i = .int .i64 k ∧ Alters (fun b => b = w3.heap.size) w5 wr ∧ OwnInts w0.heap.size wr (.slice (some ⟨w3.heap.size, 0, none⟩) nk nk) (handTo ks x s k)) (fun i _ => nk - (intOf i).toNat)
            case atStart => exact ⟨0, by omega, rfl, Alters.refl _ _, by rw [HHZ.out]; exact hO5⟩
            case round =>
              clear hO5 hB5
              obtain ⟨k, hk, rfl, al, hO⟩ := hrel
              generalize wr = w6 at *
              have al36 : Alters (fun b => b = P ∨ b = w3.heap.size) w3 w6 := (HAL5.out.mono (fun _ _ h => .inl h)).trans (al.mono (fun _ _ h => .inr h))
              have hb6 : Below w0.heap.size w0 w6 := HBW3.out.trans (al36.below hsz (fun k hk => by rcases hk with h | h <;> omega))
              have hG := (hb6.block w.heap.size (by omega)).trans HG0.out
              have hR := (hb6.block (w.heap.size + 1) (by omega)).trans HR0.out
              have hP6 := (al.block P (by have := HAL5.out.size; omega) (by omega)).trans hP5
              have hsz6 := hb6.size
              by_cases hkl : k < nk
              · skip
                obtain ⟨gb, goff, hgk, hgN, hgc⟩ := (hK.below (((hb0.trans (hb6.mono hb0.size))).mono hN)).at_ (j := k) (by rw [HNK.out]; exact hkl)
                subst hgk
                have u1 : decide (k < nk) = true := by simpa using hkl
                have u2 : decide ((k : Int) < 2) = true := by simp; omega
                have u3 : (0 : Int) ≤ (k : Int) := by omega
                have u4 : (k : Int) < (nk : Int) := by omega
                have g3 : w6.cell? ⟨w.heap.size, 3, none⟩ = some (.slice (some ⟨gb, goff, none⟩) nk ck) := bx_cell hG 3 rfl
                have p1 := bx_cell hP6 (1 + s) hc5
                have rh := bx_cell hR (12 + (2 * s + k)) (x.get_hand (2 * s + k) (by omega))
                have hh8 := hx.hand (2 * s + k)
                have hHV : handV x s k = if x.hand (2 * s + k) > 250 then 8 else ((x.hand (2 * s + k) % 3 : Nat) : Int) := rfl
                have hno := handTo_no ks x s k
                have hyes := handTo_yes ks x s k
                have hHk := hH s k
                have e1 : ((x.hand (2 * s + k) : Nat) : Int).tmod 3 = ((x.hand (2 * s + k) % 3 : Nat) : Int) := rfl
                have l1 := Nat.mod_lt (x.hand (2 * s + k)) (show 0 < 3 by omega)
                generalize x.hand (2 * s + k) % 3 = y at *
                generalize x.hand (2 * s + k) = hv at *
                generalize handV x s k = HVV at *
                obtain ⟨L1, hL1⟩ : ∃ L1, handTo ks x s (k + 1) = L1 := ⟨_, rfl⟩
                have HL1 := Lib.hid hL1
                rw [hL1] at hno hyes
                clear hL1
                generalize handTo ks x s k = L at hO hno hyes hHk
                generalize ks[k]?.getD false = kp at *
                have HHV := Lib.hid hHV
                have HNO := Lib.hid hno
                have HYES := Lib.hid hyes
                have HP6 := Lib.hid hP6
                clear hHV hno hyes hG hR hP6
                have i1 : IntKind.i64.wrap (2 * (s : Int)) = 2 * (s : Int) := IntWalk.i64_in _ (by omega)
                have i2 : IntKind.i64.wrap (2 * (s : Int) + (k : Int)) = 2 * (s : Int) + (k : Int) := IntWalk.i64_in _ (by omega)
                have i3 : (0 : Int) ≤ 2 * (s : Int) + (k : Int) := by omega
                have i4 : 2 * (s : Int) + (k : Int) < 4 := by omega
                have i5 : (2 * (s : Int) + (k : Int)).toNat = 2 * s + k := by omega
                have i6 := i64_id hv (by omega)
                have i7 := i64_id y (by omega)
                cases kp with
                | false =>
                  have HO := Lib.hid hO
                  have HL := Lib.hid (HNO.out rfl)
                  clear hO
                  go_wp2_with fail
                  go_roundw
                  case rel => exact ⟨k + 1, by omega, by go_num, al, by rw [HL1.out, HL.out]; exact HO.out⟩
                  case measure => simp [intOf]; omega
                | true =>
                  have HL := Lib.hid (HYES.out rfl)
                  obtain ⟨z1, z2⟩ := hO.cellAt (j := k) (by omega)
                  go_upto_region 16 with (fail)
                  refine wp_region_held_drew (S := fun W => W.cell? ⟨P, 1 + s, none⟩ = some (.slice (some ⟨w3.heap.size, 0, none⟩) nk nk) ∧ W.cell? ⟨w.heap.size + 1, 12 + (2 * s + k), none⟩ = some (.int .u8 hv)) (by kernel_rfl) ⟨p1, rh⟩ (fun hHeld => ?_)
                  refine wpAnyH_take (i := 0) (oi := { dst := some 97, op := Op.move (Operand.tmp 8), type := 3, pos := "ref.go:278", after := #[], guard := none }) (v := ?_) rfl (by kernel_rfl) (by kernel_rfl) (by kernel_rfl) (fun _ _ _ h => h) (Or.inl ⟨by rfl, ?_⟩) (by assumption) ?_
                  rotate_left
                  · ((intro w hSw; (try dsimp only at hSw); go_simp); try with_reducible rfl)
                  (try simp only [Act.put, List.setIfInBounds_toArray, List.set_cons_zero, List.set_cons_succ])
                  refine wpAnyH_take (i := 1) (oi := { dst := some 98, op := Op.fieldAddr 32 (Operand.tmp 5) 1, type := 0, pos := "ref.go:278", after := #[], guard := none }) (v := ?_) rfl (by kernel_rfl) (by kernel_rfl) (by kernel_rfl) (fun _ _ _ h => h) (Or.inl ⟨by rfl, ?_⟩) (by assumption) ?_
                  rotate_left
                  · ((intro w hSw; (try dsimp only at hSw); go_simp); try with_reducible rfl)
                  (try simp only [Act.put, List.setIfInBounds_toArray, List.set_cons_zero, List.set_cons_succ])
                  refine wpAnyH_take (i := 2) (oi := { dst := some 99, op := Op.indexAddr 30 (Operand.tmp 98) (Operand.tmp 97), type := 0, pos := "ref.go:278", after := #[{ on := 1, ground := Ground.data }, { on := 0, ground := Ground.data }], guard := none }) (v := ?_) rfl (by kernel_rfl) (by kernel_rfl) (by kernel_rfl) (fun _ _ _ h => h) (Or.inl ⟨by rfl, ?_⟩) (by assumption) ?_
                  rotate_left
                  · ((intro w hSw; (try dsimp only at hSw); go_simp); try with_reducible rfl)
                  (try simp only [Act.put, List.setIfInBounds_toArray, List.set_cons_zero, List.set_cons_succ])
                  refine wpAnyH_take (i := 3) (oi := { dst := some 100, op := Op.load 29 (Operand.tmp 99), type := 29, pos := "ref.go:278", after := #[{ on := 2, ground := Ground.data }], guard := none }) (v := ?_) rfl (by kernel_rfl) (by kernel_rfl) (by kernel_rfl) (fun _ _ _ h => h) (Or.inl ⟨by rfl, ?_⟩) (by assumption) ?_
                  rotate_left
                  · ((intro w hSw; (try dsimp only at hSw); go_simp); try with_reducible rfl)
                  (try simp only [Act.put, List.setIfInBounds_toArray, List.set_cons_zero, List.set_cons_succ])
                  refine wpAnyH_take (i := 4) (oi := { dst := some 101, op := Op.move (Operand.tmp 9), type := 3, pos := "ref.go:278", after := #[], guard := none }) (v := ?_) rfl (by kernel_rfl) (by kernel_rfl) (by kernel_rfl) (fun _ _ _ h => h) (Or.inl ⟨by rfl, ?_⟩) (by assumption) ?_
                  rotate_left
                  · ((intro w hSw; (try dsimp only at hSw); go_simp); try with_reducible rfl)
                  (try simp only [Act.put, List.setIfInBounds_toArray, List.set_cons_zero, List.set_cons_succ])
                  refine wpAnyH_take (i := 5) (oi := { dst := some 102, op := Op.move (Operand.tmp 8), type := 3, pos := "ref.go:278", after := #[], guard := none }) (v := ?_) rfl (by kernel_rfl) (by kernel_rfl) (by kernel_rfl) (fun _ _ _ h => h) (Or.inl ⟨by rfl, ?_⟩) (by assumption) ?_
                  rotate_left
                  · ((intro w hSw; (try dsimp only at hSw); go_simp); try with_reducible rfl)
                  (try simp only [Act.put, List.setIfInBounds_toArray, List.set_cons_zero, List.set_cons_succ])
                  refine wpAnyH_take (i := 6) (oi := { dst := some 103, op := Op.binOp BinOp.mul 3 (Operand.const (Value.int IntKind.i64 2)) (Operand.tmp 102) 3, type := 3, pos := "ref.go:278", after := #[{ on := 5, ground := Ground.data }], guard := none }) (v := ?_) rfl (by kernel_rfl) (by kernel_rfl) (by kernel_rfl) (fun _ _ _ h => h) (Or.inl ⟨by rfl, ?_⟩) (by assumption) ?_
                  rotate_left
                  · ((intro w hSw; (try dsimp only at hSw); go_simp); try with_reducible rfl)
                  (try simp only [Act.put, List.setIfInBounds_toArray, List.set_cons_zero, List.set_cons_succ])
                  refine wpAnyH_take (i := 7) (oi := { dst := some 104, op := Op.move (Operand.tmp 9), type := 3, pos := "ref.go:278", after := #[], guard := none }) (v := ?_) rfl (by kernel_rfl) (by kernel_rfl) (by kernel_rfl) (fun _ _ _ h => h) (Or.inl ⟨by rfl, ?_⟩) (by assumption) ?_
                  rotate_left
                  · ((intro w hSw; (try dsimp only at hSw); go_simp); try with_reducible rfl)
                  (try simp only [Act.put, List.setIfInBounds_toArray, List.set_cons_zero, List.set_cons_succ])
                  refine wpAnyH_take (i := 8) (oi := { dst := some 105, op := Op.binOp BinOp.add 3 (Operand.tmp 103) (Operand.tmp 104) 3, type := 3, pos := "ref.go:278", after := #[{ on := 6, ground := Ground.data }, { on := 7, ground := Ground.data }], guard := none }) (v := ?_) rfl (by kernel_rfl) (by kernel_rfl) (by kernel_rfl) (fun _ _ _ h => h) (Or.inl ⟨by rfl, ?_⟩) (by assumption) ?_
                  rotate_left
                  · ((intro w hSw; (try dsimp only at hSw); go_simp); try with_reducible rfl)
                  (try simp only [Act.put, List.setIfInBounds_toArray, List.set_cons_zero, List.set_cons_succ])
                  refine wpAnyH_take (i := 9) (oi := { dst := some 106, op := Op.fieldAddr 61 (Operand.tmp 3) 2, type := 0, pos := "ref.go:278", after := #[], guard := none }) (v := ?_) rfl (by kernel_rfl) (by kernel_rfl) (by kernel_rfl) (fun _ _ _ h => h) (Or.inl ⟨by rfl, ?_⟩) (by assumption) ?_
                  rotate_left
                  · ((intro w hSw; (try dsimp only at hSw); go_simp); try with_reducible rfl)
                  (try simp only [Act.put, List.setIfInBounds_toArray, List.set_cons_zero, List.set_cons_succ])
                  refine wpAnyH_take (i := 10) (oi := { dst := some 107, op := Op.indexAddr 59 (Operand.tmp 106) (Operand.tmp 105), type := 0, pos := "ref.go:278", after := #[{ on := 9, ground := Ground.data }, { on := 8, ground := Ground.data }], guard := none }) (v := ?_) rfl (by kernel_rfl) (by kernel_rfl) (by kernel_rfl) (fun _ _ _ h => h) (Or.inl ⟨by rfl, ?_⟩) (by assumption) ?_
                  rotate_left
                  · ((intro w hSw; (try dsimp only at hSw); go_simp); try with_reducible rfl)
                  (try simp only [Act.put, List.setIfInBounds_toArray, List.set_cons_zero, List.set_cons_succ])
                  refine wpAnyH_take (i := 11) (oi := { dst := some 108, op := Op.load 5 (Operand.tmp 107), type := 5, pos := "ref.go:278", after := #[{ on := 10, ground := Ground.data }], guard := none }) (v := ?_) rfl (by kernel_rfl) (by kernel_rfl) (by kernel_rfl) (fun _ _ _ h => h) (Or.inl ⟨by rfl, ?_⟩) (by assumption) ?_
                  rotate_left
                  · ((intro w hSw; (try dsimp only at hSw); go_simp); try with_reducible rfl)
                  (try simp only [Act.put, List.setIfInBounds_toArray, List.set_cons_zero, List.set_cons_succ])
                  refine wpAnyH_take (i := 12) (oi := { dst := some 109, op := Op.convert 5 3 (Operand.tmp 108), type := 3, pos := "ref.go:278", after := #[{ on := 11, ground := Ground.data }], guard := none }) (v := ?_) rfl (by kernel_rfl) (by kernel_rfl) (by kernel_rfl) (fun _ _ _ h => h) (Or.inl ⟨by rfl, ?_⟩) (by assumption) ?_
                  rotate_left
                  · ((intro w hSw; (try dsimp only at hSw); go_simp); try with_reducible rfl)
                  (try simp only [Act.put, List.setIfInBounds_toArray, List.set_cons_zero, List.set_cons_succ])
                  refine wpAnyH_take (i := 13) (oi := { dst := some 110, op := Op.binOp BinOp.rem 3 (Operand.tmp 109) (Operand.const (Value.int IntKind.i64 3)) 3, type := 3, pos := "ref.go:278", after := #[{ on := 12, ground := Ground.data }], guard := none }) (v := ?_) rfl (by kernel_rfl) (by kernel_rfl) (by kernel_rfl) (fun _ _ _ h => h) (Or.inl ⟨by rfl, ?_⟩) (by assumption) ?_
                  rotate_left
                  · ((intro w hSw; (try dsimp only at hSw); go_simp); try with_reducible rfl)
                  (try simp only [Act.put, List.setIfInBounds_toArray, List.set_cons_zero, List.set_cons_succ])
                  refine wpAnyH_take (i := 14) (oi := { dst := some 111, op := Op.indexAddr 29 (Operand.tmp 100) (Operand.tmp 101), type := 0, pos := "ref.go:278", after := #[{ on := 3, ground := Ground.data }, { on := 4, ground := Ground.data }, { on := 0, ground := Ground.phase }, { on := 1, ground := Ground.phase }, { on := 2, ground := Ground.phase }, { on := 3, ground := Ground.phase }, { on := 4, ground := Ground.phase }, { on := 5, ground := Ground.phase }, { on := 6, ground := Ground.phase }, { on := 7, ground := Ground.phase }, { on := 8, ground := Ground.phase }, { on := 9, ground := Ground.phase }, { on := 10, ground := Ground.phase }, { on := 11, ground := Ground.phase }, { on := 12, ground := Ground.phase }, { on := 13, ground := Ground.phase }], guard := none }) (v := ?_) rfl (by kernel_rfl) (by kernel_rfl) (by kernel_rfl) (fun _ _ _ h => h) (Or.inl ⟨by rfl, ?_⟩) (by assumption) ?_
                  rotate_left
                  · ((intro w hSw; (try dsimp only at hSw); go_simp); try with_reducible rfl)
                  (try simp only [Act.put, List.setIfInBounds_toArray, List.set_cons_zero, List.set_cons_succ])
                  refine wpAnyH_ready (rs := [15]) (by kernel_rfl) (by simp) ?_
                  refine AllReadyH.cons (o := { dst := none, op := Op.store 3 (Operand.tmp 111) (Operand.tmp 110), type := 0, pos := "ref.go:278", after := #[{ on := 14, ground := Ground.data }, { on := 13, ground := Ground.data }, { on := 0, ground := Ground.phase }, { on := 1, ground := Ground.phase }, { on := 2, ground := Ground.phase }, { on := 3, ground := Ground.phase }, { on := 4, ground := Ground.phase }, { on := 5, ground := Ground.phase }, { on := 6, ground := Ground.phase }, { on := 7, ground := Ground.phase }, { on := 8, ground := Ground.phase }, { on := 9, ground := Ground.phase }, { on := 10, ground := Ground.phase }, { on := 11, ground := Ground.phase }, { on := 12, ground := Ground.phase }, { on := 13, ground := Ground.phase }], guard := none }) rfl (fun K hK => ?_) AllReadyH.nil
                  go_simp
                  refine hK.out _ _ ⟨(World.cell?_setCell_far _ _ _ _ (by simp; omega)).trans hHeld.1, (World.cell?_setCell_far _ _ _ _ (by simp; omega)).trans hHeld.2⟩ (fun hS => ?_)
                  clear hK K
                  (try simp only [Act.put, List.setIfInBounds_toArray, List.set_cons_zero, List.set_cons_succ])
                  refine wpAnyH_done (by kernel_rfl) ?_ _
                  have al7 : Alters (fun b => b = w3.heap.size) w5 (w6.setCell ⟨w3.heap.size, k, none⟩ (.int .i64 (y : Int))).drew := (al.trans (alters_cell w6 w3.heap.size k _)).drew_2
                  have hO7 := OwnInts.drew_ (hO.set k (y : Int))
                  have p17 := hS.1
                  have rh7 := hS.2
                  clear z1 z2 hHeld p1 rh hO al hb6 g3 hgc hS
                  generalize (w6.setCell ⟨w3.heap.size, k, none⟩ (.int .i64 (y : Int))).drew = w7 at *
                  by_cases h250 : 250 < hv
                  · have v1 : decide (250 < (hv : Int)) = true := by simp; omega
                    have v2 : decide (250 < hv) = true := by simpa using h250
                    rw [if_pos h250] at HHV
                    obtain ⟨z1, z2⟩ := hO7.cellAt (j := k) (by simp; omega)
                    have HO7 := Lib.hid hO7
                    clear hO7
                    go_wp2_with fail
                    go_roundw
                    case rel => exact ⟨k + 1, by omega, by go_num, al7.trans (alters_cell _ _ _ _), by rw [HL1.out, HL.out, HHV.out]; have := HO7.out.set k 8; rwa [List.set_set] at this⟩
                    case measure => simp [intOf]; omega
                  · have v1 : decide (250 < (hv : Int)) = false := by simp; omega
                    have v2 : decide (250 < hv) = false := by simpa using h250
                    rw [if_neg h250] at HHV
                    have HO7 := Lib.hid hO7
                    clear hO7
                    go_wp2_with fail
                    go_roundw
                    case rel => exact ⟨k + 1, by omega, by go_num, al7, by rw [HL1.out, HL.out, HHV.out]; exact HO7.out⟩
                    case measure => simp [intOf]; omega
              · obtain rfl : k = nk := by omega
                have u1 : decide (k < k) = false := by simp
                have u1' : decide ((k : Int) < (k : Int)) = false := by simp
                have g3 : w6.cell? ⟨w.heap.size, 3, none⟩ = some (.slice ak k ck) := bx_cell hG 3 rfl
                obtain ⟨u0, u1v, hcs, hHS6⟩ := HNX.out w6 zr zs al36 hO
                rw [hcs] at hP6
                have hOA := own_alt2 HO3.out al36 (by omega) (by omega)
                have HH6 := Lib.hid hHS6
                have HP6 := Lib.hid hP6
                have HOA := Lib.hid hOA
                clear hcs hHS6 hP6 hOA hO hP5 hc5 hG hR
                go_wp2_with fail
                go_roundw
                case rel => exact ⟨s + 1, u0, u1v, by omega, by go_num, HP6.out, HOA.out, HH6.out, hb6⟩
                case measure => simp [intOf]; omega
          · obtain rfl : s = 2 := by omega
            have t2 : decide ((2 : Int) < 2) = false := rfl
            rcases hHS with ⟨h, _⟩ | ⟨h, _⟩ | ⟨_, B0, B1, rfl, rfl, h0, h1, hn1, hn2, hn3⟩
            · omega
            · omega
            have hZ := (hbw.block (w.heap.size + 1 + 1) (by omega)).trans hZ0
            have p0 := bx_cell hP 0 rfl
            have p1 := bx_cell hP 1 rfl
            have p2 := bx_cell hP 2 rfl
            have p3 := bx_cell hP 3 rfl
            have p4 := bx_cell hP 4 rfl
            have z0 := bx_cell hZ 0 rfl
            have z1 := bx_cell hZ 1 rfl
            have z2 := bx_cell hZ 2 rfl
            have z3 := bx_cell hZ 3 rfl
            have z4 := bx_cell hZ 4 rfl
            have f0 := bx_frozen hZ 0
            have f1 := bx_frozen hZ 1
            have f2 := bx_frozen hZ 2
            have f3 := bx_frozen hZ 3
            have f4 := bx_frozen hZ 4
            have hsz := hbw.size
            have hX := set5_block hZ (.slice (some ⟨A, 0, none⟩) bc bc) (.slice (some ⟨B0, 0, none⟩) nk nk) (.slice (some ⟨B1, 0, none⟩) nk nk) (.int .i64 zr) (.int .i64 zs)
            have ho := set5_own hO (b := w.heap.size + 1 + 1) (by omega) (.slice (some ⟨A, 0, none⟩) bc bc) (.slice (some ⟨B0, 0, none⟩) nk nk) (.slice (some ⟨B1, 0, none⟩) nk nk) (.int .i64 zr) (.int .i64 zs)
            have ho0 := set5_own h0 (b := w.heap.size + 1 + 1) (by omega) (.slice (some ⟨A, 0, none⟩) bc bc) (.slice (some ⟨B0, 0, none⟩) nk nk) (.slice (some ⟨B1, 0, none⟩) nk nk) (.int .i64 zr) (.int .i64 zs)
            have ho1 := set5_own h1 (b := w.heap.size + 1 + 1) (by omega) (.slice (some ⟨A, 0, none⟩) bc bc) (.slice (some ⟨B0, 0, none⟩) nk nk) (.slice (some ⟨B1, 0, none⟩) nk nk) (.int .i64 zr) (.int .i64 zs)
            have hB := hb0.trans ((hbw.mono hb0.size).trans ((set5_alters w3 (w.heap.size + 1 + 1) (.slice (some ⟨A, 0, none⟩) bc bc) (.slice (some ⟨B0, 0, none⟩) nk nk) (.slice (some ⟨B1, 0, none⟩) nk nk) (.int .i64 zr) (.int .i64 zs)).below (by omega) (fun k hk => by omega)))
            have HX := Lib.hid hX
            have HO := Lib.hid ho
            have HO0 := Lib.hid ho0
            have HO1 := Lib.hid ho1
            have HB := Lib.hid hB
            have HHH := Lib.hid hH
            clear hX ho ho0 ho1 hB hH hO h0 h1 hP hZ hG hR hbw hb0 hZ0
            go_wp2
            refine bodyPost_ret_by (v := .agg #[.slice (some ⟨A, 0, none⟩) bc bc, .slice (some ⟨B0, 0, none⟩) nk nk, .slice (some ⟨B1, 0, none⟩) nk nk, .int .i64 zr, .int .i64 zs]) (results_cell_row rfl _ _ (w.heap.size + 1 + 1) 32 _ (0, 0) _ rfl HX.out Tryz.underlying32 rfl info_pos) rfl ?_
            have hA1 : (madeP bc r ks x).cells.length = bc := by rw [HAT.out]; exact hATl
            have hA2 : (madeP bc r ks x).h0.length = nk := by rw [H0D.out]; exact HHH.out 0 nk
            have hA3 : (madeP bc r ks x).h1.length = nk := by rw [H1D.out]; exact HHH.out 1 nk
            refine ⟨A, B0, B1, bc, nk, nk, ?_, ⟨?_, ?_, ?_⟩, ⟨hn1, hn2, hn3⟩, HB.out⟩
            · unfold PosV
              rw [hA1, hA2, hA3, HRS.out.1, HRS.out.2]
            · rw [hA1, HAT.out]; exact OwnInts.mono HO.out (by omega)
            · rw [hA2, H0D.out]; exact OwnInts.mono HO0.out (by omega)
            · rw [hA3, H1D.out]; exact OwnInts.mono HO1.out (by omega)
end Go.Proofs.YtphhkfelpckilaaGreatDoor
