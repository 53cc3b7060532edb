/-
  Valid of the package pos, whole.
-/
import Derived.Test.YtepbmgbomdekaaaDVal
import Derived.Deep.DeepCutAuto
namespace Go.Proofs.Ytepbmgbomdekaaa
open Go Go.RowKit

/-- Whether a position fits a game with this many cells, kinds that keep or don't, and rights. -/
def posB (bc r : Nat) (ks : List Bool) (p : PosS) : Bool := decide (p.cells.length = bc) && (allIn p.cells (2 * ks.length) && (handB ks p.h0 && (handB ks p.h1 && (upToB p.rights (2 ^ r - 1) && upToB p.side 1))))

set_option maxRecDepth 100000 in
set_option maxHeartbeats 2000000 in
theorem posValid_any (bc r : Nat) (ks : List Bool) (vn vt vm vc vb ve : Value) (p : PosS) (ak b b0 b1 : Option Addr) (ck c c0 c1 N : Nat) (w : World) (hr : r ≤ 4) (hks : ks.length ≤ 1000) (hp : PosFit p) (hN : N ≤ w.heap.size) (hP : PosIn N w b b0 b1 p) (hK : Keeps N w ak ks) :
    Calls Try.prog 36 #[.agg #[.int .i64 (bc : Int), vn, vt, .slice ak ks.length ck, .int .i64 (r : Int), vm, vc, vb, ve], PosV b b0 b1 c c0 c1 p] w fun e w' => e = .returned (.bool (posB bc r ks p)) ∧ Below w.heap.size w w' := by
  obtain ⟨R, hR⟩ : ∃ R, posB bc r ks p = R := ⟨_, rfl⟩
  rw [hR]
  unfold posB at hR
  have HRES := Lib.hid hR
  clear hR
  unfold PosV
  go_enter Try.func36, Try.ntmps36
  go_upto_region 1 with (fail)
  have hb0 : Below w.heap.size w ((w.alloc (.cells #[.int .i64 (bc : Int), vn, vt, .slice ak ks.length ck, .int .i64 (r : Int), vm, vc, vb, ve] 35)).alloc (.cells #[.slice b p.cells.length c, .slice b0 p.h0.length c0, .slice b1 p.h1.length c1, .int .i64 p.rights, .int .i64 p.side] 27)) := below_alloc (below_alloc (Below.refl _ _) _) _
  have g0 : ((w.alloc (.cells #[.int .i64 (bc : Int), vn, vt, .slice ak ks.length ck, .int .i64 (r : Int), vm, vc, vb, ve] 35)).alloc (.cells #[.slice b p.cells.length c, .slice b0 p.h0.length c0, .slice b1 p.h1.length c1, .int .i64 p.rights, .int .i64 p.side] 27)).cell? ⟨w.heap.size, 0, none⟩ = some (.int .i64 (bc : Int)) := cell_alloc_keep (cell_new_at _ _ _ _ _ _ rfl rfl) _
  have g3 : ((w.alloc (.cells #[.int .i64 (bc : Int), vn, vt, .slice ak ks.length ck, .int .i64 (r : Int), vm, vc, vb, ve] 35)).alloc (.cells #[.slice b p.cells.length c, .slice b0 p.h0.length c0, .slice b1 p.h1.length c1, .int .i64 p.rights, .int .i64 p.side] 27)).cell? ⟨w.heap.size, 3, none⟩ = some (.slice ak ks.length ck) := cell_alloc_keep (cell_new_at _ _ _ _ _ _ rfl rfl) _
  have g4 : ((w.alloc (.cells #[.int .i64 (bc : Int), vn, vt, .slice ak ks.length ck, .int .i64 (r : Int), vm, vc, vb, ve] 35)).alloc (.cells #[.slice b p.cells.length c, .slice b0 p.h0.length c0, .slice b1 p.h1.length c1, .int .i64 p.rights, .int .i64 p.side] 27)).cell? ⟨w.heap.size, 4, none⟩ = some (.int .i64 (r : Int)) := cell_alloc_keep (cell_new_at _ _ _ _ _ _ rfl rfl) _
  have p0 : ((w.alloc (.cells #[.int .i64 (bc : Int), vn, vt, .slice ak ks.length ck, .int .i64 (r : Int), vm, vc, vb, ve] 35)).alloc (.cells #[.slice b p.cells.length c, .slice b0 p.h0.length c0, .slice b1 p.h1.length c1, .int .i64 p.rights, .int .i64 p.side] 27)).cell? ⟨w.heap.size + 1, 0, none⟩ = some (.slice b p.cells.length c) := cell_new_at _ _ _ _ _ _ (by simp) rfl
  have p1 : ((w.alloc (.cells #[.int .i64 (bc : Int), vn, vt, .slice ak ks.length ck, .int .i64 (r : Int), vm, vc, vb, ve] 35)).alloc (.cells #[.slice b p.cells.length c, .slice b0 p.h0.length c0, .slice b1 p.h1.length c1, .int .i64 p.rights, .int .i64 p.side] 27)).cell? ⟨w.heap.size + 1, 1, none⟩ = some (.slice b0 p.h0.length c0) := cell_new_at _ _ _ _ _ _ (by simp) rfl
  have p2 : ((w.alloc (.cells #[.int .i64 (bc : Int), vn, vt, .slice ak ks.length ck, .int .i64 (r : Int), vm, vc, vb, ve] 35)).alloc (.cells #[.slice b p.cells.length c, .slice b0 p.h0.length c0, .slice b1 p.h1.length c1, .int .i64 p.rights, .int .i64 p.side] 27)).cell? ⟨w.heap.size + 1, 2, none⟩ = some (.slice b1 p.h1.length c1) := cell_new_at _ _ _ _ _ _ (by simp) rfl
  have p3 : ((w.alloc (.cells #[.int .i64 (bc : Int), vn, vt, .slice ak ks.length ck, .int .i64 (r : Int), vm, vc, vb, ve] 35)).alloc (.cells #[.slice b p.cells.length c, .slice b0 p.h0.length c0, .slice b1 p.h1.length c1, .int .i64 p.rights, .int .i64 p.side] 27)).cell? ⟨w.heap.size + 1, 3, none⟩ = some (.int .i64 p.rights) := cell_new_at _ _ _ _ _ _ (by simp) rfl
  have p4 : ((w.alloc (.cells #[.int .i64 (bc : Int), vn, vt, .slice ak ks.length ck, .int .i64 (r : Int), vm, vc, vb, ve] 35)).alloc (.cells #[.slice b p.cells.length c, .slice b0 p.h0.length c0, .slice b1 p.h1.length c1, .int .i64 p.rights, .int .i64 p.side] 27)).cell? ⟨w.heap.size + 1, 4, none⟩ = some (.int .i64 p.side) := cell_new_at _ _ _ _ _ _ (by simp) rfl
  generalize (w.alloc (.cells #[.int .i64 (bc : Int), vn, vt, .slice ak ks.length ck, .int .i64 (r : Int), vm, vc, vb, ve] 35)).alloc (.cells #[.slice b p.cells.length c, .slice b0 p.h0.length c0, .slice b1 p.h1.length c1, .int .i64 p.rights, .int .i64 p.side] 27) = w0 at *
  have hl0 := World.block_lt_of_cell? _ _ g0
  have hl1 := World.block_lt_of_cell? _ _ p0
  go_upto_region 2 with (fail)
  go_cut [6] (fun s wx => s = .int .i64 (2 ^ r - 1) ∧ wx = w0)
  case first =>
    have : r = 0 ∨ r = 1 ∨ r = 2 ∨ r = 3 ∨ r = 4 := by omega
    rcases this with rfl | rfl | rfl | rfl | rfl
    all_goals
      go_wp2
      go_meet
      case rel => exact ⟨rfl, rfl⟩
  case rest =>
    obtain ⟨rfl, rfl⟩ := hcut
    have KC := Lib.hid (conf_any p.cells b c N ks.length w.heap.size ak ck wc hp.cells hks g3 (hP.up hN hb0).cells)
    have KH0 := Lib.hid (validHand_any ks p.h0 ak b0 ck c0 N wc hp.h0 (hK.below (hb0.mono hN)) (hP.up hN hb0).h0)
    have KH1 := Lib.hid (validHand_any ks p.h1 ak b1 ck c1 N wc hp.h1 (hK.below (hb0.mono hN)) (hP.up hN hb0).h1)
    have KU := Lib.hid (upTo_any p.rights (2 ^ r - 1) wc)
    have KS := Lib.hid (upTo_any p.side 1 wc)
    clear hP hK hp
    generalize ((2 : Int) ^ r - 1) = m at *
    generalize allIn p.cells (2 * (ks.length : Int)) = A at *
    generalize handB ks p.h0 = H0 at *
    generalize handB ks p.h1 = H1 at *
    generalize upToB p.rights m = U at *
    generalize upToB p.side 1 = S at *
    by_cases hlen : p.cells.length = bc
    · have t0 : decide (p.cells.length = bc) = true := by simpa using hlen
      have t1 : ((p.cells.length : Int) == (bc : Int)) = true := by simp; omega
      have t2 : decide ((p.cells.length : Int) = (bc : Int)) = true := by simp; omega
      rw [t0] at HRES
      clear t0 hlen
      cases A with
      | false =>
        go_wp2_with fail
        refine KC.out.mono ?_
        rintro e w' ⟨rfl, rfl⟩
        go_wp2
        go_ret
        exact ⟨by rw [← HRES.out]; first | rfl | simp, hb0⟩
      | true =>
        go_wp2_with fail
        refine KC.out.mono ?_
        rintro e w' ⟨rfl, rfl⟩
        cases H0 with
        | false =>
          go_wp2_with fail
          refine KH0.out.mono ?_
          rintro e w' ⟨rfl, rfl⟩
          go_wp2
          go_ret
          exact ⟨by rw [← HRES.out]; first | rfl | simp, hb0⟩
        | true =>
          go_wp2_with fail
          refine KH0.out.mono ?_
          rintro e w' ⟨rfl, rfl⟩
          cases H1 with
          | false =>
            go_wp2_with fail
            refine KH1.out.mono ?_
            rintro e w' ⟨rfl, rfl⟩
            go_wp2
            go_ret
            exact ⟨by rw [← HRES.out]; first | rfl | simp, hb0⟩
          | true =>
            go_wp2_with fail
            refine KH1.out.mono ?_
            rintro e w' ⟨rfl, rfl⟩
            cases U with
            | false =>
              go_wp2_with fail
              refine KU.out.mono ?_
              rintro e w' ⟨rfl, rfl⟩
              go_wp2
              go_ret
              exact ⟨by rw [← HRES.out]; first | rfl | simp, hb0⟩
            | true =>
              go_wp2_with fail
              refine KU.out.mono ?_
              rintro e w' ⟨rfl, rfl⟩
              cases S with
              | false =>
                go_wp2_with fail
                refine KS.out.mono ?_
                rintro e w' ⟨rfl, rfl⟩
                go_wp2
                go_ret
                exact ⟨by rw [← HRES.out]; first | rfl | simp, hb0⟩
              | true =>
                go_wp2_with fail
                refine KS.out.mono ?_
                rintro e w' ⟨rfl, rfl⟩
                go_wp2
                go_ret
                exact ⟨by rw [← HRES.out]; first | rfl | simp, hb0⟩
    · have t0 : decide (p.cells.length = bc) = false := by simpa using hlen
      have t1 : ((p.cells.length : Int) == (bc : Int)) = false := by simp; omega
      have t2 : decide ((p.cells.length : Int) = (bc : Int)) = false := by simp; omega
      rw [t0] at HRES
      clear t0 hlen
      go_wp2
      go_ret
      exact ⟨by rw [← HRES.out]; first | rfl | simp, hb0⟩
end Go.Proofs.Ytepbmgbomdekaaa
