/-
  For the laws of texts: made and read positions as records; the class of worlds that hold a game and three positions.
-/
import Derived.Test.YtphhkfelpckilaaGreatDoorTBack
import Derived.Test.YtphhkfelpckilaaGreatDoorGGame
import Derived.Test.YtphhkfelpckilaaGreatDoorGMany
import Derived.Test.YtphhkfelpckilaaGreatDoorDSan
import Derived.Test.YtphhkfelpckilaaGreatDoorDEq
import Derived.Test.YtphhkfelpckilaaGreatDoorDRefL
import Derived.Deep.QuietTactic
namespace Go.Proofs.YtphhkfelpckilaaGreatDoor
open Go Go.RowKit Go.Lib Go.Sort

theorem made_posA (bc r : Nat) (ks : List Bool) (vn vt vm vc vb ve : Value) (ak : Option Addr) (ck N : Nat) (y : PRaw) (w : World) (hbc : 1 ≤ bc ∧ bc ≤ 9) (hr : r ≤ 2) (hks : 1 ≤ ks.length ∧ ks.length ≤ 2) (hy : y.Ok) (hN : N ≤ w.heap.size) (hK : Keeps N w ak ks) :
    Calls Tryz.prog 33 #[.agg #[.int .i64 (bc : Int), vn, vt, .slice ak ks.length ck, .int .i64 (r : Int), vm, vc, vb, ve], .agg y.cells] w fun e w' =>
      ∃ x : PosA, e = .returned (.agg #[.slice x.a x.p.cells.length x.c, .slice x.a0 x.p.h0.length x.c0, .slice x.a1 x.p.h1.length x.c1, .int .i64 x.p.rights, .int .i64 x.p.side]) ∧ AOk w'.heap.size w' x ∧ PosGood bc r ks x.p ∧ x.p = madeP bc r ks y ∧ Below w.heap.size w w' := by
  refine (made_pos bc r ks vn vt vm vc vb ve ak ck N y w hbc hr hks hy hN hK).mono ?_
  rintro e w' ⟨p, A, B0, B1, c, c0, c1, rfl, hO, _, hg, he, hb⟩
  exact ⟨⟨p, some ⟨A, 0, none⟩, some ⟨B0, 0, none⟩, some ⟨B1, 0, none⟩, c, c0, c1⟩, rfl, ⟨hg.fit, hO.in_⟩, hg, he, hb⟩
/-- What Parse gives back, as a record. -/
def ParsedA (w : World) (q : PosS) (z : Int) (e : Ending) (w' : World) : Prop :=
  ∃ x : PosA, x.p = q ∧ e = .returned (.tuple #[.agg #[.slice x.a x.p.cells.length x.c, .slice x.a0 x.p.h0.length x.c0, .slice x.a1 x.p.h1.length x.c1, .int .i64 x.p.rights, .int .i64 x.p.side], .int .i64 z]) ∧ AOk w'.heap.size w' x ∧ Below w.heap.size w w'
theorem Parsed.rec_ {w w' : World} {q : PosS} {z : Int} {e : Ending} (h : Parsed w q z e w') (hf : PosFit q) : ParsedA w q z e w' := by
  obtain ⟨a, a0, a1, c, c0, c1, rfl, hO, hb⟩ := h
  exact ⟨⟨q, a, a0, a1, c, c0, c1⟩, rfl, rfl, ⟨hf, hO.in_⟩, hb⟩
theorem fit_zero : PosFit posZero := ⟨by simp [posZero], by simp [posZero], by simp [posZero]⟩
theorem parsedP_fit (bc r : Nat) (ks : List Bool) (s t : List UInt8) : PosFit (parsedP bc r ks (readP s) t) := by
  unfold parsedP
  split
  · exact (readP_num s).fit
  · exact fit_zero
theorem parseA (bc r : Nat) (ks : List Bool) (vn vt vm vc vb ve : Value) (ak : Option Addr) (ck N : Nat) (s : List UInt8) (w : World) (hr : r ≤ 4) (hks : ks.length ≤ 1000) (hN : N ≤ w.heap.size) (hK : Keeps N w ak ks) (hE : EnvIn w) (hl : s.length ≤ 1000000) :
    Calls Tryz.prog 34 #[.agg #[.int .i64 (bc : Int), vn, vt, .slice ak ks.length ck, .int .i64 (r : Int), vm, vc, vb, ve], .string ⟨s.toArray⟩] w (ParsedA w (parsedP bc r ks (readP s) s) (parsedE bc r ks (readP s) s)) :=
  (parse_all bc r ks vn vt vm vc vb ve ak ck N s w hr hks hN hK hE hl).mono fun _ _ h => h.rec_ (parsedP_fit bc r ks s s)
theorem text_short {p : PosS} (hp : PosLow p) : (textP p).length ≤ 20 := by
  have l0 := signsS_len contS p.cells
  have l1 := signsS_len digS p.h0
  have l2 := signsS_len digS p.h1
  have l3 := signS_len digS p.rights
  have l4 := signS_len digS p.side
  have k0 := hp.lc
  have k1 := hp.l0
  have k2 := hp.l1
  rw [text_form hp]
  simp only [List.length_append, List.length_cons]
  omega
theorem range_l {W : World} {b : Nat} {ys zs : Array Value} {T : TypeId} (h : W.heap[b]? = some (.cells (ys ++ zs) T (0, 0))) : W.rangeAt b 0 ys.toList := fun j v hv => by
  rw [Nat.zero_add]
  have hj : j < ys.size := by have := (List.getElem?_eq_some_iff.1 hv).1; simpa using this
  exact bx_cell h j (by rw [Array.getElem?_append_left hj]; simpa using hv)
theorem range_r {W : World} {b : Nat} {ys zs : Array Value} {T : TypeId} (h : W.heap[b]? = some (.cells (ys ++ zs) T (0, 0))) (hs : ys.size = 18) : W.rangeAt b 18 zs.toList := fun j v hv => by
  exact bx_cell h (18 + j) (by rw [Array.getElem?_append_right (by omega), hs, Nat.add_sub_cancel_left]; simpa using hv)

/-- A game's box and three positions. -/
structure RC3 (w : World) (gb : Nat) (x0 x1 x2 x3 x4 x5 x6 x7 x8 : Value) (ga gc gd : Nat) (x y z : PosA) (W : World) : Prop where
  b : Below w.heap.size w W
  g0 : W.cell? ⟨gb, 0, none⟩ = some x0
  g1 : W.cell? ⟨gb, 1, none⟩ = some x1
  g2 : W.cell? ⟨gb, 2, none⟩ = some x2
  g3 : W.cell? ⟨gb, 3, none⟩ = some x3
  g4 : W.cell? ⟨gb, 4, none⟩ = some x4
  g5 : W.cell? ⟨gb, 5, none⟩ = some x5
  g6 : W.cell? ⟨gb, 6, none⟩ = some x6
  g7 : W.cell? ⟨gb, 7, none⟩ = some x7
  g8 : W.cell? ⟨gb, 8, none⟩ = some x8
  p0 : W.cell? ⟨ga, 0, none⟩ = some (.slice x.a x.p.cells.length x.c)
  p1 : W.cell? ⟨ga, 1, none⟩ = some (.slice x.a0 x.p.h0.length x.c0)
  p2 : W.cell? ⟨ga, 2, none⟩ = some (.slice x.a1 x.p.h1.length x.c1)
  p3 : W.cell? ⟨ga, 3, none⟩ = some (.int .i64 x.p.rights)
  p4 : W.cell? ⟨ga, 4, none⟩ = some (.int .i64 x.p.side)
  q0 : W.cell? ⟨gc, 0, none⟩ = some (.slice y.a y.p.cells.length y.c)
  q1 : W.cell? ⟨gc, 1, none⟩ = some (.slice y.a0 y.p.h0.length y.c0)
  q2 : W.cell? ⟨gc, 2, none⟩ = some (.slice y.a1 y.p.h1.length y.c1)
  q3 : W.cell? ⟨gc, 3, none⟩ = some (.int .i64 y.p.rights)
  q4 : W.cell? ⟨gc, 4, none⟩ = some (.int .i64 y.p.side)
  r0 : W.cell? ⟨gd, 0, none⟩ = some (.slice z.a z.p.cells.length z.c)
  r1 : W.cell? ⟨gd, 1, none⟩ = some (.slice z.a0 z.p.h0.length z.c0)
  r2 : W.cell? ⟨gd, 2, none⟩ = some (.slice z.a1 z.p.h1.length z.c1)
  r3 : W.cell? ⟨gd, 3, none⟩ = some (.int .i64 z.p.rights)
  r4 : W.cell? ⟨gd, 4, none⟩ = some (.int .i64 z.p.side)
theorem RC3.up {w W W' : World} {gb ga gc gd : Nat} {x0 x1 x2 x3 x4 x5 x6 x7 x8 : Value} {x y z : PosA} (h : RC3 w gb x0 x1 x2 x3 x4 x5 x6 x7 x8 ga gc gd x y z W) (hb : Below W.heap.size W W') : RC3 w gb x0 x1 x2 x3 x4 x5 x6 x7 x8 ga gc gd x y z W' :=
  ⟨below_step h.b hb, cell_keep hb h.g0, cell_keep hb h.g1, cell_keep hb h.g2, cell_keep hb h.g3, cell_keep hb h.g4, cell_keep hb h.g5, cell_keep hb h.g6, cell_keep hb h.g7, cell_keep hb h.g8, cell_keep hb h.p0, cell_keep hb h.p1, cell_keep hb h.p2, cell_keep hb h.p3, cell_keep hb h.p4, cell_keep hb h.q0, cell_keep hb h.q1, cell_keep hb h.q2, cell_keep hb h.q3, cell_keep hb h.q4, cell_keep hb h.r0, cell_keep hb h.r1, cell_keep hb h.r2, cell_keep hb h.r3, cell_keep hb h.r4⟩
theorem RC3.of {W : World} {gb ga gc gd : Nat} {x0 x1 x2 x3 x4 x5 x6 x7 x8 : Value} {x y z : PosA} {T U : TypeId} (hg : W.heap[gb]? = some (.cells #[x0, x1, x2, x3, x4, x5, x6, x7, x8] T (0, 0))) (hx : W.heap[ga]? = some (.cells #[.slice x.a x.p.cells.length x.c, .slice x.a0 x.p.h0.length x.c0, .slice x.a1 x.p.h1.length x.c1, .int .i64 x.p.rights, .int .i64 x.p.side] U (0, 0))) (hy : W.heap[gc]? = some (.cells #[.slice y.a y.p.cells.length y.c, .slice y.a0 y.p.h0.length y.c0, .slice y.a1 y.p.h1.length y.c1, .int .i64 y.p.rights, .int .i64 y.p.side] U (0, 0))) (hz : W.heap[gd]? = some (.cells #[.slice z.a z.p.cells.length z.c, .slice z.a0 z.p.h0.length z.c0, .slice z.a1 z.p.h1.length z.c1, .int .i64 z.p.rights, .int .i64 z.p.side] U (0, 0))) : RC3 W gb x0 x1 x2 x3 x4 x5 x6 x7 x8 ga gc gd x y z W :=
  ⟨Below.refl _ _, bx_cell hg 0 rfl, bx_cell hg 1 rfl, bx_cell hg 2 rfl, bx_cell hg 3 rfl, bx_cell hg 4 rfl, bx_cell hg 5 rfl, bx_cell hg 6 rfl, bx_cell hg 7 rfl, bx_cell hg 8 rfl, bx_cell hx 0 rfl, bx_cell hx 1 rfl, bx_cell hx 2 rfl, bx_cell hx 3 rfl, bx_cell hx 4 rfl, bx_cell hy 0 rfl, bx_cell hy 1 rfl, bx_cell hy 2 rfl, bx_cell hy 3 rfl, bx_cell hy 4 rfl, bx_cell hz 0 rfl, bx_cell hz 1 rfl, bx_cell hz 2 rfl, bx_cell hz 3 rfl, bx_cell hz 4 rfl⟩
end Go.Proofs.YtphhkfelpckilaaGreatDoor
