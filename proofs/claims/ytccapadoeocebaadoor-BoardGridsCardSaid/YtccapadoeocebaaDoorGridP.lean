/-
  Grids as lists: they are valid; a direction leads back; the distance of two cells.
-/
import Derived.Test.YtccapadoeocebaaDoorSanS
import Derived.Test.YtccapadoeocebaaDoorFarP
namespace Go.Proofs.YtccapadoeocebaaDoor
open Go Go.RowKit

theorem cell_lt {W H x y : Nat} (hx : x < W) (hy : y < H) : y * W + x < W * H := by
  have h1 : (y + 1) * W ≤ H * W := Nat.mul_le_mul_right W hy
  rw [Nat.add_mul, Nat.one_mul] at h1
  rw [Nat.mul_comm W H]
  omega
theorem cell_mod {W x y : Nat} (hx : x < W) : (y * W + x) % W = x := by
  rw [Nat.add_comm, Nat.add_mul_mod_self_right, Nat.mod_eq_of_lt hx]
theorem cell_div {W x y : Nat} (hx : x < W) : (y * W + x) / W = y := by
  rw [Nat.add_comm, Nat.add_mul_div_right _ _ (by omega), Nat.div_eq_of_lt hx, Nat.zero_add]
theorem col_lt {W H c : Nat} (h1 : 1 ≤ W) (_ : c < W * H) : c % W < W := Nat.mod_lt _ (by omega)
theorem row_lt {W H c : Nat} (hc : c < W * H) : c / W < H := Nat.div_lt_of_lt_mul hc
theorem cell_of (W c : Nat) : c / W * W + c % W = c := by rw [Nat.mul_comm]; exact Nat.div_add_mod c W

/-- Where a direction of a grid leads. -/
theorem gridEnt_in {W H c d : Nat} (_ : 1 ≤ W) : (gridEnt W H d c = -1) ∨ ∃ x y : Nat, x < W ∧ y < H ∧ gridEnt W H d c = ((y * W + x : Nat) : Int) ∧ (x : Int) = ((c % W : Nat) : Int) + dxs[d]?.getD 0 ∧ (y : Int) = ((c / W : Nat) : Int) + dys[d]?.getD 0 := by
  unfold gridEnt cellS
  by_cases h : ((c % W : Nat) : Int) + dxs[d]?.getD 0 < 0 ∨ (W : Int) ≤ ((c % W : Nat) : Int) + dxs[d]?.getD 0 ∨ ((c / W : Nat) : Int) + dys[d]?.getD 0 < 0 ∨ (H : Int) ≤ ((c / W : Nat) : Int) + dys[d]?.getD 0
  · rw [if_pos h]; exact .inl rfl
  · rw [if_neg h]
    right
    obtain ⟨x, hx⟩ := Int.eq_ofNat_of_zero_le (show 0 ≤ ((c % W : Nat) : Int) + dxs[d]?.getD 0 by omega)
    obtain ⟨y, hy⟩ := Int.eq_ofNat_of_zero_le (show 0 ≤ ((c / W : Nat) : Int) + dys[d]?.getD 0 by omega)
    rw [hx, hy] at h ⊢
    exact ⟨x, y, by omega, by omega, by rw [Int.natCast_add, Int.natCast_mul], rfl, rfl⟩

theorem gridEnt_at {W H c d x y : Nat} (hx : x < W) (hy : y < H) (ex : (x : Int) = ((c % W : Nat) : Int) + dxs[d]?.getD 0) (ey : (y : Int) = ((c / W : Nat) : Int) + dys[d]?.getD 0) : gridEnt W H d c = ((y * W + x : Nat) : Int) := by
  unfold gridEnt cellS
  rw [← ex, ← ey, if_neg (by omega), Int.natCast_add, Int.natCast_mul]

theorem gridRow_get {W H d c : Nat} (hc : c < W * H) : (gridRow W H d)[c]?.getD 0 = gridEnt W H d c := by
  unfold gridRow; simp [hc]
theorem grid_row {W H d : Nat} (hd : d < 8) : (gridS W H).next[d]?.getD [] = gridRow W H d := by
  unfold gridS; simp [hd]
theorem grid_turn {W H d : Nat} (hd : d < 8) : (gridS W H).turn[d]?.getD 0 = gridTurn d := by
  unfold gridS; simp [hd]

theorem grid_valid {W H : Nat} (h1 : 1 ≤ W) (h2 : 1 ≤ H) (h3 : W * H ≤ 64) : validS (gridS W H) = true := by
  have hn : 1 ≤ W * H := Nat.mul_pos h1 h2
  have hr : (gridS W H).next.all (rowOk (gridS W H).cells) = true := by
    rw [List.all_eq_true]
    intro r hr
    simp only [gridS, List.mem_map, List.mem_range] at hr
    obtain ⟨d, _, rfl⟩ := hr
    have hl : (gridRow W H d).length = W * H := by simp [gridRow]
    refine row_ent (by rw [hl]; rfl) (fun j hj => ?_)
    rw [hl] at hj
    rw [gridRow_get hj]
    simp only [gridS]
    rcases gridEnt_in (W := W) (H := H) (c := j) (d := d) h1 with e | ⟨x, y, hx, hy, e, _, _⟩
    · rw [e]; omega
    · rw [e]; have := cell_lt hx hy; omega
  have ht : turnS (gridS W H).turn (gridS W H).next.length = true := by
    have e1 : (gridS W H).next.length = 8 := by simp [gridS]
    rw [e1]
    show turnS ((List.range 8).map gridTurn) 8 = true
    decide
  unfold validS
  simp only [Bool.and_eq_true, decide_eq_true_eq]
  refine ⟨⟨⟨⟨⟨?_, ?_⟩, ?_⟩, ?_⟩, hr⟩, ht⟩
  · simp only [gridS]; omega
  · simp only [gridS]; omega
  · simp [gridS]
  · simp [gridS]

theorem grid_next {W H d c : Nat} (hd : d < 8) (hc : c < W * H) : nextS (gridS W H) d c = gridEnt W H d c := by
  unfold nextS
  have e1 : (gridS W H).next.length = 8 := by simp [gridS]
  have e2 : (gridS W H).cells = ((W * H : Nat) : Int) := rfl
  rw [if_pos (by rw [e1, e2]; omega)]
  simp only [Int.toNat_natCast]
  rw [grid_row hd, gridRow_get hc]

theorem ray_back (d : Nat) (hd : d < 8) : dxs[(d + 4) % 8]?.getD 0 = - dxs[d]?.getD 0 ∧ dys[(d + 4) % 8]?.getD 0 = - dys[d]?.getD 0 := by
  have : d = 0 ∨ d = 1 ∨ d = 2 ∨ d = 3 ∨ d = 4 ∨ d = 5 ∨ d = 6 ∨ d = 7 := by omega
  rcases this with rfl | rfl | rfl | rfl | rfl | rfl | rfl | rfl <;> decide

theorem ray_of (i j : Int) (hi : -1 ≤ i ∧ i ≤ 1) (hj : -1 ≤ j ∧ j ≤ 1) (h : i ≠ 0 ∨ j ≠ 0) : ∃ d : Nat, d < 8 ∧ dxs[d]?.getD 0 = i ∧ dys[d]?.getD 0 = j := by
  have h1 : i = -1 ∨ i = 0 ∨ i = 1 := by omega
  have h2 : j = -1 ∨ j = 0 ∨ j = 1 := by omega
  rcases h1 with rfl | rfl | rfl <;> rcases h2 with rfl | rfl | rfl
  · exact ⟨7, by decide⟩
  · exact ⟨6, by decide⟩
  · exact ⟨5, by decide⟩
  · exact ⟨0, by decide⟩
  · omega
  · exact ⟨4, by decide⟩
  · exact ⟨1, by decide⟩
  · exact ⟨2, by decide⟩
  · exact ⟨3, by decide⟩

/-- Where a direction leads, Turn of it leads back from. -/
theorem grid_back {W H d c : Nat} (h1 : 1 ≤ W) (h2 : 1 ≤ H) (h3 : W * H ≤ 64) (hd : d < 8) (hc : c < W * H) (h : 0 ≤ toS (gridS W H) 0 d c) : toS (gridS W H) 1 d (toS (gridS W H) 0 d c) = c := by
  have hB := (ok_of_valid (grid_valid h1 h2 h3)).1
  have e1 : (gridS W H).next.length = 8 := by simp [gridS]
  have e2 : (gridS W H).cells = ((W * H : Nat) : Int) := rfl
  rw [toS_zero hB (by omega) (by rw [e2]; omega), grid_row hd, gridRow_get hc] at h ⊢
  rcases gridEnt_in (W := W) (H := H) (c := c) (d := d) h1 with e | ⟨x, y, hx, hy, e, ex, ey⟩
  · omega
  · rw [e]
    have hlt := cell_lt hx hy
    have ht : (gridS W H).turn[d]?.getD 0 = (((d + 4) % 8 : Nat) : Int) := by rw [grid_turn hd]; rfl
    rw [toS_one hB (by omega) (by rw [e2]; omega) ht (by omega), grid_row (by omega), gridRow_get hlt]
    obtain ⟨r1, r2⟩ := ray_back d hd
    rw [gridEnt_at (x := c % W) (y := c / W) (col_lt h1 hc) (row_lt hc) (by rw [cell_mod hx, r1, ex]; omega) (by rw [cell_div hx, r2, ey]; omega), cell_of]

def gap (i j : Nat) : Nat := (i - j) + (j - i)
def cheb (W a c : Nat) : Nat := max (gap (a % W) (c % W)) (gap (a / W) (c / W))

theorem grid_mem {W H c : Nat} (_ : 1 ≤ W) (hc : c < W * H) (z : Int) : z ∈ stepsS (gridS W H) c ↔ ∃ d : Nat, d < 8 ∧ gridEnt W H d c = z ∧ 0 ≤ z := by
  have e1 : (gridS W H).next.length = 8 := by simp [gridS]
  rw [mem_stepsS]
  unfold stepB
  rw [e1]
  simp only [List.any_eq_true, List.mem_range, decide_eq_true_eq]
  refine ⟨fun ⟨h0, d, hd, e⟩ => ⟨d, hd, by rw [← grid_next hd hc]; exact e, h0⟩, fun ⟨d, hd, e, h0⟩ => ⟨h0, d, hd, by rw [grid_next hd hc]; exact e⟩⟩

theorem rays_small (d : Nat) (h : d < 8) : (-1 ≤ dxs[d]?.getD 0 ∧ dxs[d]?.getD 0 ≤ 1) ∧ (-1 ≤ dys[d]?.getD 0 ∧ dys[d]?.getD 0 ≤ 1) := rays_in d h

theorem cheb_step {ax ay cx cy m p q : Nat} (h : max (gap ax cx) (gap ay cy) = m + 1) (hp : (ax < cx ∧ p = cx - 1) ∨ (cx < ax ∧ p = cx + 1) ∨ (ax = cx ∧ p = cx)) (hq : (ay < cy ∧ q = cy - 1) ∨ (cy < ay ∧ q = cy + 1) ∨ (ay = cy ∧ q = cy)) :
    max (gap ax p) (gap ay q) = m ∧ ((cx : Int) - (p : Int) ≠ 0 ∨ (cy : Int) - (q : Int) ≠ 0) ∧ (-1 ≤ (cx : Int) - (p : Int) ∧ (cx : Int) - (p : Int) ≤ 1) ∧ (-1 ≤ (cy : Int) - (q : Int) ∧ (cy : Int) - (q : Int) ≤ 1) := by
  unfold gap at *
  rcases hp with ⟨h1, rfl⟩ | ⟨h1, rfl⟩ | ⟨h1, rfl⟩ <;> rcases hq with ⟨h2, rfl⟩ | ⟨h2, rfl⟩ | ⟨h2, rfl⟩ <;> omega

/-- The distance of two cells of a grid: the greater one of the differences of their columns and rows. -/
theorem grid_dist {W H a c : Nat} (h1 : 1 ≤ W) (h2 : 1 ≤ H) (h3 : W * H ≤ 64) (ha : a < W * H) (hc : c < W * H) : (distS (stepsS (gridS W H)) (W * H) a)[c]?.getD 0 = (cheb W a c : Int) := by
  have hB := (ok_of_valid (grid_valid h1 h2 h3)).1
  have hin : ∀ x : Nat, x < W * H → ∀ z ∈ stepsS (gridS W H) x, 0 ≤ z ∧ z < ((W * H : Nat) : Int) := stepsS_lt hB rfl
  obtain ⟨_, s2, s3, _⟩ := dist_spec ha hin
  have low : ∀ (k : Nat) (z : Int), Steps (stepsS (gridS W H)) a k z → cheb W a z.toNat ≤ k := by
    intro k z hz
    induction hz with
    | here => simp [cheb, gap]
    | @on k x y hx hy ih =>
      have hxr := s3 k x hx
      obtain ⟨x', rfl⟩ := Int.eq_ofNat_of_zero_le hxr.1
      obtain ⟨d, hd, e, h0⟩ := (grid_mem h1 (by omega) y).1 hy
      rcases gridEnt_in (W := W) (H := H) (c := x') (d := d) h1 with e' | ⟨p, q, hp, hq, e', ex, ey⟩
      · omega
      · have hyv : y.toNat = q * W + p := by omega
        have hr := rays_small d hd
        rw [hyv]
        simp only [Int.toNat_natCast] at ih
        unfold cheb gap at ih ⊢
        rw [cell_mod hp, cell_div hp]
        omega
  have high : ∀ (m c : Nat), c < W * H → cheb W a c = m → Steps (stepsS (gridS W H)) a m c := by
    intro m
    induction m with
    | zero =>
      intro c hc h
      have e1 : a % W = c % W := by unfold cheb gap at h; omega
      have e2 : a / W = c / W := by unfold cheb gap at h; omega
      have : a = c := by rw [← cell_of W a, ← cell_of W c, e1, e2]
      subst this
      exact .here
    | succ m ih =>
      intro c hc h
      have hcx := col_lt (H := H) h1 hc
      have hcy := row_lt hc
      have hax := col_lt (H := H) h1 ha
      have hay := row_lt ha
      obtain ⟨p, hp⟩ : ∃ p : Nat, (a % W < c % W ∧ p = c % W - 1) ∨ (c % W < a % W ∧ p = c % W + 1) ∨ (a % W = c % W ∧ p = c % W) := by
        rcases Nat.lt_trichotomy (a % W) (c % W) with e | e | e
        · exact ⟨c % W - 1, by omega⟩
        · exact ⟨c % W, by omega⟩
        · exact ⟨c % W + 1, by omega⟩
      obtain ⟨q, hq⟩ : ∃ q : Nat, (a / W < c / W ∧ q = c / W - 1) ∨ (c / W < a / W ∧ q = c / W + 1) ∨ (a / W = c / W ∧ q = c / W) := by
        rcases Nat.lt_trichotomy (a / W) (c / W) with e | e | e
        · exact ⟨c / W - 1, by omega⟩
        · exact ⟨c / W, by omega⟩
        · exact ⟨c / W + 1, by omega⟩
      have hpW : p < W := by omega
      have hqH : q < H := by omega
      obtain ⟨hs1, hne, hb1, hb2⟩ := cheb_step h hp hq
      have hch : cheb W a (q * W + p) = m := by
        unfold cheb
        rw [cell_mod hpW, cell_div hpW]
        exact hs1
      have hst := ih (q * W + p) (cell_lt hpW hqH) hch
      obtain ⟨d, hd, r1, r2⟩ := ray_of _ _ hb1 hb2 hne
      have hent := gridEnt_at (W := W) (H := H) (c := q * W + p) (d := d) (x := c % W) (y := c / W) hcx hcy (by rw [cell_mod hpW, r1]; omega) (by rw [cell_div hpW, r2]; omega)
      rw [cell_of] at hent
      exact .on hst ((grid_mem h1 (cell_lt hpW hqH) c).2 ⟨d, hd, hent, by omega⟩)
  have hs := s3 _ _ (high _ c hc rfl)
  simp only [Int.toNat_natCast] at hs
  have hl := low _ _ (s2 c hc hs.2.2.1)
  simp only [Int.toNat_natCast] at hl
  omega
end Go.Proofs.YtccapadoeocebaaDoor
