/-
  Parse of the package pos, given what is read.
-/
import Derived.Test.YtphhkfelpckilaaGreatDoorDRead
import Derived.Test.YtphhkfelpckilaaGreatDoorDValid
namespace Go.Proofs.YtphhkfelpckilaaGreatDoor
open Go Go.RowKit

def posZero : PosS := ⟨[], [], [], 0, 0⟩
def parseOk (bc r : Nat) (ks : List Bool) (p : PosS) (s : List UInt8) : Bool := posB bc r ks p && decide (textP p = s)
def parsedP (bc r : Nat) (ks : List Bool) (p : PosS) (s : List UInt8) : PosS := if parseOk bc r ks p s = true then p else posZero
def parsedE (bc r : Nat) (ks : List Bool) (p : PosS) (s : List UInt8) : Int := if parseOk bc r ks p s = true then 0 else 3
/-- What Parse gives back. -/
def Parsed (w : World) (q : PosS) (x : Int) (e : Ending) (w' : World) : Prop :=
  ∃ a a0 a1 c c0 c1, e = .returned (.tuple #[PosV a a0 a1 c c0 c1 q, .int .i64 x]) ∧ PosOwn w.heap.size w' a a0 a1 c c0 c1 q ∧ Below w.heap.size w w'

theorem Keeps.to {n m : Nat} {A B : World} {a : Option Addr} {ks : List Bool} (h : Keeps n A a ks) (hb : Below A.heap.size A B) (hn : n ≤ A.heap.size) (hm : n ≤ m) : Keeps m B a ks := by
  rcases h with h | ⟨b, off, e, hlt, hc⟩
  · exact .inl h
  · exact .inr ⟨b, off, e, Nat.lt_of_lt_of_le hlt hm, fun j hj => (hb.cell (p := ⟨b, off + j * 3 + 2, none⟩) (Nat.lt_of_lt_of_le hlt hn)).trans (hc j hj)⟩
theorem PosIn.to {n m : Nat} {A B : World} {a a0 a1 : Option Addr} {p : PosS} (h : PosIn n A a a0 a1 p) (hb : Below A.heap.size A B) (hn : n ≤ A.heap.size) (hm : n ≤ m) : PosIn m B a a0 a1 p :=
  ⟨(h.cells.up hn hb).mono hm, (h.h0.up hn hb).mono hm, (h.h1.up hn hb).mono hm⟩
theorem PosNum.fit {p : PosS} (h : PosNum p) : PosFit p := by
  obtain ⟨a, b, c, _, _⟩ := h
  exact ⟨by unfold maxLen; omega, by unfold maxLen; omega, by unfold maxLen; omega⟩

set_option maxRecDepth 100000 in
set_option maxHeartbeats 4000000 in
theorem parse_by (bc r : Nat) (ks : List Bool) (vn vt vm vc vb ve : Value) (ak : Option Addr) (ck N : Nat) (s : List UInt8) (p : PosS) (w : World) (hr : r ≤ 4) (hks : ks.length ≤ 1000) (hN : N ≤ w.heap.size) (hK : Keeps N w ak ks) (hE : EnvIn w) (hp : PosNum p)
    (hR : ∀ W, Below w.heap.size w W → Calls Tryz.prog 62 #[.string ⟨s.toArray⟩] W fun e w' => ∃ a a0 a1 c c0 c1, e = .returned (PosV a a0 a1 c c0 c1 p) ∧ PosOwn W.heap.size w' a a0 a1 c c0 c1 p ∧ Below W.heap.size W w') :
    Calls Tryz.prog 34 #[.agg #[.int .i64 (bc : Int), vn, vt, .slice ak ks.length ck, .int .i64 (r : Int), vm, vc, vb, ve], .string ⟨s.toArray⟩] w (Parsed w (parsedP bc r ks p s) (parsedE bc r ks p s)) := by
  have HR := Lib.hid hR
  have HE := Lib.hid hE
  have hbA : Below w.heap.size w ((w.alloc (.cells #[.int .i64 (bc : Int), vn, vt, .slice ak ks.length ck, .int .i64 (r : Int), vm, vc, vb, ve] 41)).alloc (.cells #[.slice none 0 0, .slice none 0 0, .slice none 0 0, .int .i64 0, .int .i64 0] 32)) := below_alloc (below_alloc (Below.refl _ _) _) _
  clear hR hE
  go_enter Tryz.func34, Tryz.ntmps34
  go_wp2_with fail
  refine (HR.out _ hbA).mono ?_
  rintro e w2 ⟨b, b0, b1, c, c0, c1, rfl, hPo, hb2⟩
  have hPi := hPo.in_
  have hG2 : w2.heap[w.heap.size]? = some (.cells #[.int .i64 (bc : Int), vn, vt, .slice ak ks.length ck, .int .i64 (r : Int), vm, vc, vb, ve] 41 (0, 0)) := (hb2.block _ (by simp; omega)).trans ((hp_old _ _ _ (by simp)).trans (World.alloc_heap_new _ _))
  have hZ2 : w2.heap[w.heap.size + 1]? = some (.cells #[.slice none 0 0, .slice none 0 0, .slice none 0 0, .int .i64 0, .int .i64 0] 32 (0, 0)) := (hb2.block _ (by simp)).trans (by have := World.alloc_heap_new (w.alloc (.cells #[.int .i64 (bc : Int), vn, vt, .slice ak ks.length ck, .int .i64 (r : Int), vm, vc, vb, ve] 41)) (.cells #[.slice none 0 0, .slice none 0 0, .slice none 0 0, .int .i64 0, .int .i64 0] 32); simpa using this)
  have hbw2 := below_step hbA hb2
  unfold PosV
  go_upto_region 2 with (fail)
  have hbA2 : Below w2.heap.size w2 (w2.alloc (.cells #[.slice b p.cells.length c, .slice b0 p.h0.length c0, .slice b1 p.h1.length c1, .int .i64 p.rights, .int .i64 p.side] 32)) := below_alloc (Below.refl _ _) _
  have hP3 : (w2.alloc (.cells #[.slice b p.cells.length c, .slice b0 p.h0.length c0, .slice b1 p.h1.length c1, .int .i64 p.rights, .int .i64 p.side] 32)).heap[w2.heap.size]? = some (.cells #[.slice b p.cells.length c, .slice b0 p.h0.length c0, .slice b1 p.h1.length c1, .int .i64 p.rights, .int .i64 p.side] 32 (0, 0)) := World.alloc_heap_new _ _
  generalize w2.alloc (.cells #[.slice b p.cells.length c, .slice b0 p.h0.length c0, .slice b1 p.h1.length c1, .int .i64 p.rights, .int .i64 p.side] 32) = w3 at *
  have hG3 := (hbA2.block _ (bx_lt hG2)).trans hG2
  have hZ3 := (hbA2.block _ (bx_lt hZ2)).trans hZ2
  have hbw3 := below_step hbw2 hbA2
  have hPo3 := hPo.up hbA2
  simp only [World.size_alloc] at hPo3
  have HPO3 := Lib.hid hPo3
  have hPi3 := hPi.to hbA2 (Nat.le_refl _) hbA2.size
  have hK3 := hK.to hbw3 hN (Nat.le_trans hN hbw3.size)
  have HV := Lib.hid (posValid_any bc r ks vn vt vm vc vb ve p ak b b0 b1 ck c c0 c1 w3.heap.size w3 hr hks hp.fit (Nat.le_refl _) hPi3 hK3)
  have HW := Lib.hid (fun W (h : Below w3.heap.size w3 W) => written_any p b b0 b1 c c0 c1 w3.heap.size W hp (HE.out.up (below_step hbw3 h)) h.size (hPi3.up (Nat.le_refl _) h))
  have HPI := Lib.hid hPi3
  have HBW := Lib.hid hbw3
  have HZ := Lib.hid hZ3
  have HP := Lib.hid hP3
  have g0 := bx_cell hG3 0 rfl
  have g1 := bx_cell hG3 1 rfl
  have g2 := bx_cell hG3 2 rfl
  have g3 := bx_cell hG3 3 rfl
  have g4 := bx_cell hG3 4 rfl
  have g5 := bx_cell hG3 5 rfl
  have g6 := bx_cell hG3 6 rfl
  have g7 := bx_cell hG3 7 rfl
  have g8 := bx_cell hG3 8 rfl
  have p0 := bx_cell hP3 0 rfl
  have p1 := bx_cell hP3 1 rfl
  have p2 := bx_cell hP3 2 rfl
  have p3 := bx_cell hP3 3 rfl
  have p4 := bx_cell hP3 4 rfl
  have l1 := bx_lt hG3
  have l2 := bx_lt hP3
  clear hPo hPo3 hG2 hZ2 hG3 hZ3 hP3 hPi hPi3 hK hK3 hb2 hbA hbA2 hbw2 hbw3 HR HE hp
  unfold PosV at HV HW
  go_wp2_with fail
  refine HV.out.mono ?_
  rintro e w4 ⟨rfl, hb4⟩
  have HB4 := Lib.hid (below_step HBW.out hb4)
  have HZ4 := Lib.hid ((hb4.block _ (bx_lt HZ.out)).trans HZ.out)
  have HP4 := Lib.hid ((hb4.block _ (bx_lt HP.out)).trans HP.out)
  have HPI4 := Lib.hid (HPI.out.to hb4 (Nat.le_refl _) hb4.size)
  have HW4 := Lib.hid (HW.out w4 hb4)
  have HPO4 := Lib.hid (HPO3.out.up hb4)
  clear g0 g1 g2 g3 g4 g5 g6 g7 g8 p0 p1 p2 p3 p4 HZ HP HPI HW HBW hb4 l1 l2 HV HPO3
  cases hv : posB bc r ks p with
  | false =>
    have HQ := Lib.hid (show parsedP bc r ks p s = posZero ∧ parsedE bc r ks p s = 3 from by unfold parsedP parsedE parseOk; rw [hv]; exact ⟨rfl, rfl⟩)
    clear hv
    have z0 := bx_cell HZ4.out 0 rfl
    have z1 := bx_cell HZ4.out 1 rfl
    have z2 := bx_cell HZ4.out 2 rfl
    have z3 := bx_cell HZ4.out 3 rfl
    have z4 := bx_cell HZ4.out 4 rfl
    have y0 := bx_frozen HZ4.out 0
    have y1 := bx_frozen HZ4.out 1
    have y2 := bx_frozen HZ4.out 2
    have y3 := bx_frozen HZ4.out 3
    have y4 := bx_frozen HZ4.out 4
    have lz := bx_lt HZ4.out
    go_wp2
    have hf := set5_block HZ4.out (.slice none 0 0) (.slice none 0 0) (.slice none 0 0) (.int .i64 0) (.int .i64 0)
    refine bodyPost_ret_by (v := .tuple #[.agg #[.slice none 0 0, .slice none 0 0, .slice none 0 0, .int .i64 0, .int .i64 0], .int .i64 3]) (by rw [results_cell_tmp rfl]; go_simp) rfl ?_
    rw [HQ.out.1, HQ.out.2]
    exact ⟨none, none, none, 0, 0, 0, rfl, ⟨⟨rfl, .inl ⟨rfl, rfl⟩⟩, ⟨rfl, .inl ⟨rfl, rfl⟩⟩, ⟨rfl, .inl ⟨rfl, rfl⟩⟩⟩, HB4.out.trans ((set5_alters w4 (w.heap.size + 1) _ _ _ _ _).below HB4.out.size (fun k hk => by have hk : k = w.heap.size + 1 := hk; omega))⟩
  | true =>
    have HV := Lib.hid hv
    clear hv
    have p0 := bx_cell HP4.out 0 rfl
    have p1 := bx_cell HP4.out 1 rfl
    have p2 := bx_cell HP4.out 2 rfl
    have p3 := bx_cell HP4.out 3 rfl
    have p4 := bx_cell HP4.out 4 rfl
    have lp := bx_lt HP4.out
    go_wp2_with fail
    refine HW4.out.mono ?_
    rintro e w5 ⟨rfl, hb5⟩
    have HB5 := Lib.hid (below_step HB4.out hb5)
    have HZ5 := Lib.hid ((hb5.block _ (bx_lt HZ4.out)).trans HZ4.out)
    have HP5 := Lib.hid ((hb5.block _ (bx_lt HP4.out)).trans HP4.out)
    have HPO5 := Lib.hid (HPO4.out.up hb5)
    clear p0 p1 p2 p3 p4 lp hb5 HZ4 HP4 HPO4 HB4 HW4 HPI4
    have z0 := bx_cell HZ5.out 0 rfl
    have z1 := bx_cell HZ5.out 1 rfl
    have z2 := bx_cell HZ5.out 2 rfl
    have z3 := bx_cell HZ5.out 3 rfl
    have z4 := bx_cell HZ5.out 4 rfl
    have y0 := bx_frozen HZ5.out 0
    have y1 := bx_frozen HZ5.out 1
    have y2 := bx_frozen HZ5.out 2
    have y3 := bx_frozen HZ5.out 3
    have y4 := bx_frozen HZ5.out 4
    have lz := bx_lt HZ5.out
    by_cases ht : textP p = s
    · have t3 : decide (textP p = s) = true := by simpa using ht
      have HQ := Lib.hid (show parsedP bc r ks p s = p ∧ parsedE bc r ks p s = 0 from by unfold parsedP parsedE parseOk; rw [HV.out, t3]; exact ⟨rfl, rfl⟩)
      rw [ht]
      clear ht t3
      have p0 := bx_cell HP5.out 0 rfl
      have p1 := bx_cell HP5.out 1 rfl
      have p2 := bx_cell HP5.out 2 rfl
      have p3 := bx_cell HP5.out 3 rfl
      have p4 := bx_cell HP5.out 4 rfl
      have lp := bx_lt HP5.out
      go_wp2
      refine bodyPost_ret_by (v := .tuple #[.agg #[.slice b p.cells.length c, .slice b0 p.h0.length c0, .slice b1 p.h1.length c1, .int .i64 p.rights, .int .i64 p.side], .int .i64 0]) (by rw [results_cell_tmp rfl]; go_simp) rfl ?_
      rw [HQ.out.1, HQ.out.2]
      exact ⟨b, b0, b1, c, c0, c1, rfl, (HPO5.out.set5 (b := w.heap.size + 1) (by omega) (.slice b p.cells.length c) (.slice b0 p.h0.length c0) (.slice b1 p.h1.length c1) (.int .i64 p.rights) (.int .i64 p.side)).mono (by omega), HB5.out.trans ((set5_alters w5 (w.heap.size + 1) _ _ _ _ _).below HB5.out.size (fun k hk => by have hk : k = w.heap.size + 1 := hk; omega))⟩
    · have t3 : decide (textP p = s) = false := by simpa using ht
      have HQ := Lib.hid (show parsedP bc r ks p s = posZero ∧ parsedE bc r ks p s = 3 from by unfold parsedP parsedE parseOk; rw [HV.out, t3]; exact ⟨rfl, rfl⟩)
      generalize textP p = tx at *
      have t4 : (tx == s) = false := by simpa using ht
      go_wp2
      refine bodyPost_ret_by (v := .tuple #[.agg #[.slice none 0 0, .slice none 0 0, .slice none 0 0, .int .i64 0, .int .i64 0], .int .i64 3]) (by rw [results_cell_tmp rfl]; go_simp) rfl ?_
      rw [HQ.out.1, HQ.out.2]
      exact ⟨none, none, none, 0, 0, 0, rfl, ⟨⟨rfl, .inl ⟨rfl, rfl⟩⟩, ⟨rfl, .inl ⟨rfl, rfl⟩⟩, ⟨rfl, .inl ⟨rfl, rfl⟩⟩⟩, HB5.out.trans ((set5_alters w5 (w.heap.size + 1) _ _ _ _ _).below HB5.out.size (fun k hk => by have hk : k = w.heap.size + 1 := hk; omega))⟩
end Go.Proofs.YtphhkfelpckilaaGreatDoor
