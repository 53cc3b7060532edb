/-
  What the laws of positions ask of a position that the reference made.
-/
import Derived.Test.YtphhkfelpckilaaGreatDoorGPosM
import Derived.Test.YtphhkfelpckilaaGreatDoorGVals
import Derived.Test.YtphhkfelpckilaaGreatDoorDWrt
import Derived.Test.YtphhkfelpckilaaGreatDoorDCopy
namespace Go.Proofs.YtphhkfelpckilaaGreatDoor
open Go Go.RowKit

structure PosGood (bc r : Nat) (ks : List Bool) (p : PosS) : Prop where
  all : PosAll bc r ks p
  bys : Bys (flat p)
  l0 : p.h0.length = ks.length
  l1 : p.h1.length = ks.length
  fit : PosFit p
  num : PosNum p
  small : PosSmall p
theorem madeP_good {bc r : Nat} {ks : List Bool} (hbc : 1 ≤ bc ∧ bc ≤ 9) (hr : r ≤ 2) (hks : 1 ≤ ks.length ∧ ks.length ≤ 2) (x : PRaw) : PosGood bc r ks (madeP bc r ks x) := by
  have ha := posB_all (madeP_valid (bc := bc) (r := r) hks.1 x)
  have hb := madeP_bys (bc := bc) hks.1 (by omega) hr x
  have l0 := hand_len ha.h0
  have l1 := hand_len ha.h1
  have h5 := hb (madeP bc r ks x).rights (by simp [flat])
  have h6 := hb (madeP bc r ks x).side (by simp [flat])
  have hl := ha.len
  exact ⟨ha, hb, l0, l1, ⟨by unfold maxLen; omega, by unfold maxLen; omega, by unfold maxLen; omega⟩, ⟨by omega, by omega, by omega, by omega, by omega⟩, ⟨by omega, by omega, by omega⟩⟩
theorem made_pos (bc r : Nat) (ks : List Bool) (vn vt vm vc vb ve : Value) (ak : Option Addr) (ck N : Nat) (x : PRaw) (w : World) (hbc : 1 ≤ bc ∧ bc ≤ 9) (hr : r ≤ 2) (hks : 1 ≤ ks.length ∧ ks.length ≤ 2) (hx : x.Ok) (hN : N ≤ w.heap.size) (hK : Keeps N w ak ks) :
    Calls Tryz.prog 33 #[.agg #[.int .i64 (bc : Int), vn, vt, .slice ak ks.length ck, .int .i64 (r : Int), vm, vc, vb, ve], .agg x.cells] w fun e w' =>
      ∃ (p : PosS) (A B0 B1 c c0 c1 : Nat), e = .returned (.agg #[.slice (some ⟨A, 0, none⟩) p.cells.length c, .slice (some ⟨B0, 0, none⟩) p.h0.length c0, .slice (some ⟨B1, 0, none⟩) p.h1.length c1, .int .i64 p.rights, .int .i64 p.side]) ∧ PosOwn w.heap.size w' (some ⟨A, 0, none⟩) (some ⟨B0, 0, none⟩) (some ⟨B1, 0, none⟩) c c0 c1 p ∧ (¬ A = B0 ∧ ¬ A = B1 ∧ ¬ B0 = B1) ∧ PosGood bc r ks p ∧ p = madeP bc r ks x ∧ Below w.heap.size w w' := by
  refine (madeP_any bc r ks vn vt vm vc vb ve ak ck N x w hbc hr hks hx hN hK).mono ?_
  rintro e w' ⟨A, B0, B1, c, c0, c1, rfl, hO, hne, hb⟩
  exact ⟨_, A, B0, B1, c, c0, c1, rfl, hO, hne, madeP_good hbc hr hks x, rfl, hb⟩
theorem info_raw3 : (Tryz.prog.info? 27).map (·.size) = some 12 := by kernel_rfl
theorem info_raw4 : (Tryz.prog.info? 61).map (·.size) = some 18 := by kernel_rfl
theorem info_game9 : (Tryz.prog.info? 41).map (·.size) = some 9 := by kernel_rfl
theorem info_pos8 : (Tryz.prog.info? 32).map (·.size) = some 5 := by kernel_rfl
end Go.Proofs.YtphhkfelpckilaaGreatDoor
