/-
  The examples that the laws of the package index begin with.
-/
import Derived.Test.YtepbmgbomdekaaaXBlank
import Derived.Test.YtepbmgbomdekaaaXSame
import Derived.Test.YtepbmgbomdekaaaXAt
namespace Go.Proofs.Ytepbmgbomdekaaa
open Go Go.RowKit

/-- A game's box, and what is there of its kinds. -/
structure SG (w : World) (g : Nat) (G : List Value) (N : Nat) (ak : Option Addr) (ks : List Bool) (W : World) : Prop where
  b : Below w.heap.size w W
  hg : W.heap[g]? = some (.cells G.toArray 35 (0, 0))
  hn : N ≤ W.heap.size
  hk : Keeps N W ak ks
theorem SG.up {w W W' : World} {g N : Nat} {G : List Value} {ak : Option Addr} {ks : List Bool} (h : SG w g G N ak ks W) (hb : Below W.heap.size W W') : SG w g G N ak ks W' :=
  ⟨below_step h.b hb, hp_up h.hg hb, Nat.le_trans h.hn hb.size, h.hk.below (hb.mono h.hn)⟩
theorem SG.row {w W W0 : World} {g N B : Nat} {G : List Value} {ak : Option Addr} {ks : List Bool} {cs : Array Value} (h : SG w g G N ak ks W) (hl : W0.heap.size ≤ B) (h0 : SG w g G N ak ks W0) : SG w g G N ak ks (W.setRow B cs) := by
  have ha := setRow_alt W B cs
  have hne : g ≠ B := by have := bx_lt h0.hg; omega
  refine ⟨h.b.trans (ha.below h.b.size (fun k hk => by have e : k = B := hk; have := h0.b.size; omega)), (setRow_other W B g cs hne).trans h.hg, by rw [size_setRow]; exact h.hn, ?_⟩
  exact h.hk.below (ha.below h.hn (fun k hk => by have e : k = B := hk; have := h0.hn; omega))
theorem SG.kp {w W : World} {g N : Nat} {G : List Value} {ak : Option Addr} {ks : List Bool} (h : SG w g G N ak ks W) : Keeps W.heap.size W ak ks := keeps_mono h.hk h.hn
abbrev G41 (an at_ ak : Option Addr) (ck : Nat) : List Value := [.int .i64 4, .slice an 1 1, .slice at_ 1 1, .slice ak 1 ck, .int .i64 2, .bool false, .slice none 0 0, .int .i64 3, .int .i64 2]
abbrev P4 (a b c d : Int) : PosS := ⟨[a, b, c, d], [0], [0], 0, 0⟩
theorem fit4 (a b c d : Int) : PosFit (P4 a b c d) := ⟨by simp [maxLen], by simp [maxLen], by simp [maxLen]⟩

section
variable {w : World} {g N : Nat} {an at_ ak : Option Addr} {ck : Nat} {W : World}
theorem rankE (h : SG w g (G41 an at_ ak ck) N ak [true] W) {x x0 x1 : Option Addr} {c c0 c1 : Nat} {p : PosS} (hf : PosFit p) (hP : PosIn W.heap.size W x x0 x1 p) (ai bi : Int) {a b : Nat} (hv : rankV 4 2 [true] p = (a, b)) (ha : (a : Int) = ai := by rfl) (hb : (b : Int) = bi := by rfl) :
    Calls Try.prog 21 #[.agg #[.int .i64 4, .slice an 1 1, .slice at_ 1 1, .slice ak 1 ck, .int .i64 2, .bool false, .slice none 0 0, .int .i64 3, .int .i64 2], PosV x x0 x1 c c0 c1 p] W fun e w' => e = .returned (.tuple #[.int .i64 ai, .int .i64 bi]) ∧ Below W.heap.size W w' := by
  have h1 := rank_any 4 2 [true] (.slice an 1 1) (.slice at_ 1 1) (.bool false) (.slice none 0 0) (.int .i64 3) (.int .i64 2) p ak x x0 x1 ck c c0 c1 W.heap.size W (by omega) (by omega) (by simp) (by simp) hf (Nat.le_refl _) hP h.kp
  rw [hv, ha, hb] at h1
  exact h1
theorem sizeE (h : SG w g (G41 an at_ ak ck) N ak [true] W) {x x0 x1 : Option Addr} {c c0 c1 : Nat} {p : PosS} (hf : PosFit p) (hP : PosIn W.heap.size W x x0 x1 p) (ai bi : Int) {a b : Nat} (hv : sizeV 4 2 [true] p = (a, b)) (ha : (a : Int) = ai := by rfl) (hb : (b : Int) = bi := by rfl) :
    Calls Try.prog 14 #[.agg #[.int .i64 4, .slice an 1 1, .slice at_ 1 1, .slice ak 1 ck, .int .i64 2, .bool false, .slice none 0 0, .int .i64 3, .int .i64 2], PosV x x0 x1 c c0 c1 p] W fun e w' => e = .returned (.tuple #[.int .i64 ai, .int .i64 bi]) ∧ Below W.heap.size W w' := by
  have h1 := size_any 4 2 [true] (.slice an 1 1) (.slice at_ 1 1) (.bool false) (.slice none 0 0) (.int .i64 3) (.int .i64 2) p ak x x0 x1 ck c c0 c1 W.heap.size W (by omega) (by omega) (by simp) hf (Nat.le_refl _) hP h.kp
  rw [hv, ha, hb] at h1
  exact h1
theorem matE (h : SG w g (G41 an at_ ak ck) N ak [true] W) {x x0 x1 : Option Addr} {c c0 c1 : Nat} {p : PosS} (hf : PosFit p) (hP : PosIn W.heap.size W x x0 x1 p) (a : Bool) (hv : matB 4 2 [true] p = a) :
    Calls Try.prog 16 #[.agg #[.int .i64 4, .slice an 1 1, .slice at_ 1 1, .slice ak 1 ck, .int .i64 2, .bool false, .slice none 0 0, .int .i64 3, .int .i64 2], PosV x x0 x1 c c0 c1 p] W fun e w' => e = .returned (.bool a) ∧ Below W.heap.size W w' := by
  have h1 := mat_any 4 2 [true] (.slice an 1 1) (.slice at_ 1 1) (.bool false) (.slice none 0 0) (.int .i64 3) (.int .i64 2) p ak x x0 x1 ck c c0 c1 W.heap.size W (by omega) (by omega) (by simp) hf (Nat.le_refl _) hP h.kp
  rw [hv] at h1
  exact h1
theorem atE (h : SG w g (G41 an at_ ak ck) N ak [true] W) {x x0 x1 : Option Addr} {c c0 c1 : Nat} {p : PosS} (hf : PosFit p) (hP : PosIn W.heap.size W x x0 x1 p) (i : Int) (q : PosS) (bi : Int) {b : Nat} (hv : atV 4 2 [true] p i = (q, b)) (hb : (b : Int) = bi := by rfl) :
    Calls Try.prog 18 #[.agg #[.int .i64 4, .slice an 1 1, .slice at_ 1 1, .slice ak 1 ck, .int .i64 2, .bool false, .slice none 0 0, .int .i64 3, .int .i64 2], PosV x x0 x1 c c0 c1 p, .int .i64 i] W fun e w' => ∃ a a0 a1 d d0 d1, e = .returned (.tuple #[PosV a a0 a1 d d0 d1 q, .int .i64 bi]) ∧ PosIn w'.heap.size w' a a0 a1 q ∧ Below W.heap.size W w' := by
  have h1 := at_any 4 2 [true] (.slice an 1 1) (.slice at_ 1 1) (.bool false) (.slice none 0 0) (.int .i64 3) (.int .i64 2) p i ak x x0 x1 ck c c0 c1 W.heap.size W (by omega) (by omega) (by simp) (by simp) hf (Nat.le_refl _) hP h.kp
  rw [hv, hb] at h1
  exact h1
theorem ofE {x x0 x1 : Option Addr} {c c0 c1 : Nat} (hP : PosIn W.heap.size W x x0 x1 (P4 0 1 0 2)) :
    Calls Try.prog 11 #[.agg #[.int .i64 4, .slice an 1 1, .slice at_ 1 1, .slice ak 1 ck, .int .i64 2, .bool false, .slice none 0 0, .int .i64 3, .int .i64 2], PosV x x0 x1 c c0 c1 (P4 0 1 0 2)] W fun e w' => ∃ a a0 a1 d d0 d1, e = .returned (PosV a a0 a1 d d0 d1 ⟨[2, 1, 1], [0], [0], 0, 0⟩) ∧ POwn W.heap.size w' a a0 a1 d d0 d1 ⟨[2, 1, 1], [0], [0], 0, 0⟩ ∧ Below W.heap.size W w' :=
  of_any (.int .i64 4) (.slice an 1 1) (.slice at_ 1 1) (.int .i64 2) (.bool false) (.slice none 0 0) (.int .i64 3) (.int .i64 2) (P4 0 1 0 2) [0, 1, 0, 2] ak x x0 x1 1 ck c c0 c1 W.heap.size 3 W (by omega) rfl rfl (by simp) (by decide) (by simp) (by simp) (by simp) (by simp) (Nat.le_refl _) hP
end
theorem e_size : sizeV 4 2 [true] ⟨[2, 1, 1], [0], [0], 0, 0⟩ = (12, 0) := by decide +kernel
theorem e_rank0 : rankV 4 2 [true] (P4 0 0 1 2) = (0, 0) := by decide +kernel
theorem e_rank2 : rankV 4 2 [true] (P4 0 1 0 2) = (2, 0) := by decide +kernel
theorem e_rank11 : rankV 4 2 [true] (P4 2 1 0 0) = (11, 0) := by decide +kernel
theorem e_rankz : rankV 4 2 [true] zeroP = (0, 40) := by decide +kernel
theorem e_sizez : sizeV 4 2 [true] zeroP = (0, 140) := by decide +kernel
theorem e_mat : matB 4 2 [true] ⟨[2, 1, 1], [0], [0], 0, 0⟩ = true := by decide +kernel
theorem e_matz : matB 4 2 [true] zeroP = false := by decide +kernel
theorem e_at3 : atV 4 2 [true] ⟨[2, 1, 1], [0], [0], 0, 0⟩ 3 = (P4 0 1 2 0, 0) := by rfl
theorem e_at12 : atV 4 2 [true] ⟨[2, 1, 1], [0], [0], 0, 0⟩ 12 = (zeroP, 140) := by rfl
theorem e_atm : atV 4 2 [true] ⟨[2, 1, 1], [0], [0], 0, 0⟩ (-1) = (zeroP, 140) := by rfl
end Go.Proofs.Ytepbmgbomdekaaa
