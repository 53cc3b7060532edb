/-
  The calls of the laws at a blank game of any size.
-/
import Derived.Test.YtepbmgbomdekaaaXSanW
namespace Go.Proofs.Ytepbmgbomdekaaa
open Go Go.RowKit

abbrev GB (bc nk : Nat) (an at_ ak : Option Addr) (ck : Nat) : List Value := [.int .i64 (bc : Int), .slice an 1 1, .slice at_ 1 1, .slice ak nk ck, .int .i64 2, .bool false, .slice none 0 0, .int .i64 3, .int .i64 2]
section
variable {w : World} {g N bc nk : Nat} {an at_ ak : Option Addr} {ck : Nat} {W : World}
theorem sizeG (hbc : bc ≤ 64) (h3 : nk ≤ 3) (h : SG w g (GB bc nk an at_ ak ck) N ak (blankK nk) W) {x x0 x1 : Option Addr} {c c0 c1 : Nat} {p : PosS} (hf : PosFit p) (hP : PosIn W.heap.size W x x0 x1 p) :
    Calls Try.prog 14 #[.agg #[.int .i64 (bc : Int), .slice an 1 1, .slice at_ 1 1, .slice ak nk ck, .int .i64 2, .bool false, .slice none 0 0, .int .i64 3, .int .i64 2], PosV x x0 x1 c c0 c1 p] W fun e w' => e = .returned (.tuple #[.int .i64 (((sizeV bc 2 (blankK nk) p).1 : Nat) : Int), .int .i64 (((sizeV bc 2 (blankK nk) p).2 : Nat) : Int)]) ∧ Below W.heap.size W w' := by
  have h1 := size_any bc 2 (blankK nk) (.slice an 1 1) (.slice at_ 1 1) (.bool false) (.slice none 0 0) (.int .i64 3) (.int .i64 2) p ak x x0 x1 ck c c0 c1 W.heap.size W hbc (by omega) (by rw [blankK_len]; omega) hf (Nat.le_refl _) hP h.kp
  rw [blankK_len] at h1
  exact h1
theorem matG (hbc : bc ≤ 64) (h3 : nk ≤ 3) (h : SG w g (GB bc nk an at_ ak ck) N ak (blankK nk) W) {x x0 x1 : Option Addr} {c c0 c1 : Nat} {p : PosS} (hf : PosFit p) (hP : PosIn W.heap.size W x x0 x1 p) :
    Calls Try.prog 16 #[.agg #[.int .i64 (bc : Int), .slice an 1 1, .slice at_ 1 1, .slice ak nk ck, .int .i64 2, .bool false, .slice none 0 0, .int .i64 3, .int .i64 2], PosV x x0 x1 c c0 c1 p] W fun e w' => e = .returned (.bool (matB bc 2 (blankK nk) p)) ∧ Below W.heap.size W w' := by
  have h1 := mat_any bc 2 (blankK nk) (.slice an 1 1) (.slice at_ 1 1) (.bool false) (.slice none 0 0) (.int .i64 3) (.int .i64 2) p ak x x0 x1 ck c c0 c1 W.heap.size W hbc (by omega) (by rw [blankK_len]; omega) hf (Nat.le_refl _) hP h.kp
  rw [blankK_len] at h1
  exact h1
theorem rankG (hbc : bc ≤ 64) (hk1 : 1 ≤ nk) (h3 : nk ≤ 3) (h : SG w g (GB bc nk an at_ ak ck) N ak (blankK nk) W) {x x0 x1 : Option Addr} {c c0 c1 : Nat} {p : PosS} (hf : PosFit p) (hP : PosIn W.heap.size W x x0 x1 p) :
    Calls Try.prog 21 #[.agg #[.int .i64 (bc : Int), .slice an 1 1, .slice at_ 1 1, .slice ak nk ck, .int .i64 2, .bool false, .slice none 0 0, .int .i64 3, .int .i64 2], PosV x x0 x1 c c0 c1 p] W fun e w' => e = .returned (.tuple #[.int .i64 (((rankV bc 2 (blankK nk) p).1 : Nat) : Int), .int .i64 (((rankV bc 2 (blankK nk) p).2 : Nat) : Int)]) ∧ Below W.heap.size W w' := by
  have h1 := rank_any bc 2 (blankK nk) (.slice an 1 1) (.slice at_ 1 1) (.bool false) (.slice none 0 0) (.int .i64 3) (.int .i64 2) p ak x x0 x1 ck c c0 c1 W.heap.size W hbc (by omega) (by rw [blankK_len]; omega) (by rw [blankK_len]; omega) hf (Nat.le_refl _) hP h.kp
  rw [blankK_len] at h1
  exact h1
theorem atG (hbc : bc ≤ 64) (hk1 : 1 ≤ nk) (h3 : nk ≤ 3) (h : SG w g (GB bc nk an at_ ak ck) N ak (blankK nk) W) {x x0 x1 : Option Addr} {c c0 c1 : Nat} {p : PosS} (hf : PosFit p) (hP : PosIn W.heap.size W x x0 x1 p) (i : Int) :
    Calls Try.prog 18 #[.agg #[.int .i64 (bc : Int), .slice an 1 1, .slice at_ 1 1, .slice ak nk ck, .int .i64 2, .bool false, .slice none 0 0, .int .i64 3, .int .i64 2], PosV x x0 x1 c c0 c1 p, .int .i64 i] W fun e w' => ∃ a a0 a1 d d0 d1, e = .returned (.tuple #[PosV a a0 a1 d d0 d1 (atV bc 2 (blankK nk) p i).1, .int .i64 (((atV bc 2 (blankK nk) p i).2 : Nat) : Int)]) ∧ PosIn w'.heap.size w' a a0 a1 (atV bc 2 (blankK nk) p i).1 ∧ Below W.heap.size W w' := by
  have h1 := at_any bc 2 (blankK nk) (.slice an 1 1) (.slice at_ 1 1) (.bool false) (.slice none 0 0) (.int .i64 3) (.int .i64 2) p i ak x x0 x1 ck c c0 c1 W.heap.size W hbc (by omega) (by rw [blankK_len]; omega) (by rw [blankK_len]; omega) hf (Nat.le_refl _) hP h.kp
  rw [blankK_len] at h1
  exact h1
end
/-- A blank game is made and laid in a box. -/
theorem SG.made {w w1 : World} {bc nk : Nat} {an at_ ak : Option Addr} {ck : Nat} (hb : Below w.heap.size w w1) (hk : Keeps w1.heap.size w1 ak (blankK nk)) :
    SG w w1.heap.size (GB bc nk an at_ ak ck) w1.heap.size ak (blankK nk) (w1.alloc (.cells #[.int .i64 (bc : Int), .slice an 1 1, .slice at_ 1 1, .slice ak nk ck, .int .i64 2, .bool false, .slice none 0 0, .int .i64 3, .int .i64 2] 35)) := by
  have hb2 : Below w1.heap.size w1 (w1.alloc (.cells #[.int .i64 (bc : Int), .slice an 1 1, .slice at_ 1 1, .slice ak nk ck, .int .i64 2, .bool false, .slice none 0 0, .int .i64 3, .int .i64 2] 35)) := below_alloc (Below.refl _ _) _
  exact ⟨below_step hb hb2, World.alloc_heap_new _ _, hb2.size, hk.below hb2⟩

/-- What the law of sums adds up. -/
theorem sumA_step (n a : Nat) : sumA n (a + 1) = sumA n a + sumB n a (n - a + 1) := rfl
theorem sumB_step (n a b : Nat) : sumB n a (b + 1) = sumB n a b + ways [n - a - b, a, b] := rfl
theorem sumB_le (n a : Nat) {b c : Nat} (h : b ≤ c) : sumB n a b ≤ sumB n a c := by
  induction c with
  | zero => rw [Nat.le_zero.1 h]; exact Nat.le_refl _
  | succ c ih =>
    rcases Nat.lt_or_eq_of_le h with h | h
    · have := ih (by omega); rw [sumB_step]; omega
    · subst h; exact Nat.le_refl _
theorem sumA_le (n : Nat) {a c : Nat} (h : a ≤ c) : sumA n a ≤ sumA n c := by
  induction c with
  | zero => rw [Nat.le_zero.1 h]; exact Nat.le_refl _
  | succ c ih =>
    rcases Nat.lt_or_eq_of_le h with h | h
    · have := ih (by omega); rw [sumA_step]; omega
    · subst h; exact Nat.le_refl _
theorem pow3_le {n : Nat} (h : n ≤ 8) : 3 ^ n ≤ 6561 := by
  have : ∀ m : Fin 9, 3 ^ m.val ≤ 6561 := by decide
  exact this ⟨n, by omega⟩
theorem size_one {bc : Nat} {l : List Nat} (hl : l.length = 3) (hs : l.sum = bc) (h0 h1 : List Int) (hh0 : handB [true] h0 = true) (hh1 : handB [true] h1 = true) (rg sd : Int) (hr : upToB rg 3 = true) (hsd : upToB sd 1 = true) :
    sizeV bc 2 [true] ⟨zs l, h0, h1, rg, sd⟩ = if ways l ≤ 1099511627776 then (ways l, 0) else (0, 2) := by
  unfold sizeV
  have hm : matB bc 2 [true] ⟨zs l, h0, h1, rg, sd⟩ = true := by
    unfold matB
    simp only [Bool.and_eq_true, decide_eq_true_eq]
    exact ⟨by rw [zs_len, hl]; rfl, by rw [fillF_zs]; exact hs, hh0, hh1, hr, hsd⟩
  rw [if_pos hm]
  show (if ways (nats (zs l)) ≤ 1099511627776 then (ways (nats (zs l)), 0) else (0, 2)) = _
  rw [nats_zs]
end Go.Proofs.Ytepbmgbomdekaaa
