/-
  The laws' fixed examples hold.
-/
import Derived.Test.YtphhkfelpckilaaGreatDoorDSanR
namespace Go.Proofs.YtphhkfelpckilaaGreatDoor
open Go Go.RowKit Go.Lib

theorem hp_new (W : World) (o : Obj) (b : Nat) (hb : b = W.heap.size) : (W.alloc o).heap[b]? = some o := by subst hb; exact World.alloc_heap_new _ _
theorem hp_keep {W : World} {o' : Obj} {b : Nat} (h : W.heap[b]? = some o') (o : Obj) : (W.alloc o).heap[b]? = some o' := (hp_old _ _ _ (bx_lt h)).trans h
theorem ints_blk {W : World} {b n : Nat} {cs : Array Value} {l : List Int} {t : TypeId} (h : W.heap[b]? = some (.cells cs t (0, 0))) (hn : b < n) (hc : cs = (l.map (Value.int .i64)).toArray) : Ints n W (some ⟨b, 0, none⟩) l := by
  subst hc
  refine .inr ⟨b, 0, rfl, hn, fun j hj => ?_⟩
  rw [Nat.zero_add]
  exact bx_cell h j (by simp [hj])

theorem psAt_new (W : World) (L : List PosA) (cs : Array Value) (t : TypeId) (h : cs = (L.flatMap PosA.enc).toArray) : PsAt (W.alloc (.cells cs t)) W.heap.size 0 L := by
  subst h
  intro i c hi hc
  rw [Nat.zero_add, World.cell?_alloc_new]
  simp only [List.getElem?_toArray]
  exact fm_get PosA.enc_len L i c hi hc
theorem all2 {N : Nat} {W : World} {x y : PosA} (hx : AOk N W x) (hy : AOk N W y) : ∀ z ∈ [x, y], AOk N W z := by
  intro z hz
  simp only [List.mem_cons, List.not_mem_nil, or_false] at hz
  rcases hz with rfl | rfl <;> assumption
theorem all1 {N : Nat} {W : World} {x : PosA} (hx : AOk N W x) : ∀ z ∈ [x], AOk N W z := by
  intro z hz
  simp only [List.mem_cons, List.not_mem_nil, or_false] at hz
  subst hz; exact hx
theorem ps_srt1 : Srt [psP] := by unfold Srt; simp
theorem psP_small : PosSmall psP := ⟨by decide, by decide, by decide⟩
theorem psQ_small : PosSmall psQ := ⟨by decide, by decide, by decide⟩
theorem all3 {N : Nat} {W : World} {x y : PosA} (hx : AOk N W x) (hy : AOk N W y) : ∀ z ∈ [x, y, x], AOk N W z := by
  intro z hz
  simp only [List.mem_cons, List.not_mem_nil, or_false] at hz
  rcases hz with rfl | rfl | rfl <;> assumption
theorem all3' {x y : PosA} (hx : PosSmall x.p) (hy : PosSmall y.p) : ∀ z ∈ [x, y, x], PosSmall z.p := by
  intro z hz
  simp only [List.mem_cons, List.not_mem_nil, or_false] at hz
  rcases hz with rfl | rfl | rfl <;> assumption

theorem ok2 {n : Nat} {W : World} {R : List PosA} (h : R.map (·.p) = [psP, psQ]) (ho : ∀ x ∈ R, PosOwn n W x.a x.a0 x.a1 x.c x.c0 x.c1 x.p) : ∀ x ∈ R, AOk W.heap.size W x := by
  intro x hx
  have h1 : x.p ∈ [psP, psQ] := by rw [← h]; exact List.mem_map.2 ⟨x, hx, rfl⟩
  refine ⟨?_, (ho x hx).in_⟩
  simp only [List.mem_cons, List.not_mem_nil, or_false] at h1
  rcases h1 with h1 | h1 <;> rw [h1]
  · exact psP_num.fit
  · exact psQ_num.fit

set_option maxRecDepth 100000 in
set_option maxHeartbeats 8000000 in
theorem sanity_any (w : World) (hE : EnvIn w) : Calls Tryz.prog 12 #[] w fun e w' => e = .returned (.bool true) ∧ Below w.heap.size w w' := by
  have HE := Lib.hid hE
  clear hE
  go_enter Tryz.func12, Tryz.ntmps12
  go_upto_region 2 with (fail)
  have hb1 : Below w.heap.size w ((((w.alloc (.cells #[.int .i64 1, .int .i64 (-1)] 3)).alloc (.cells #[.slice (some ⟨w.heap.size, 0, none⟩) 2 2] 29)).alloc (.cells #[.int .i64 0] 3)).alloc (.cells #[.int .i64 2, .slice (some ⟨w.heap.size + 1, 0, none⟩) 1 1, .slice (some ⟨w.heap.size + 1 + 1, 0, none⟩) 1 1] 37)) := (by repeat (first | exact Below.refl _ _ | refine below_alloc ?_ _))
  have hB : ((((w.alloc (.cells #[.int .i64 1, .int .i64 (-1)] 3)).alloc (.cells #[.slice (some ⟨w.heap.size, 0, none⟩) 2 2] 29)).alloc (.cells #[.int .i64 0] 3)).alloc (.cells #[.int .i64 2, .slice (some ⟨w.heap.size + 1, 0, none⟩) 1 1, .slice (some ⟨w.heap.size + 1 + 1, 0, none⟩) 1 1] 37)).heap[w.heap.size + 1 + 1 + 1]? = some (.cells #[.int .i64 2, .slice (some ⟨w.heap.size + 1, 0, none⟩) 1 1, .slice (some ⟨w.heap.size + 1 + 1, 0, none⟩) 1 1] 37 (0, 0)) := by (repeat (first | (refine hp_new _ _ _ ?_; simp; done) | refine hp_keep ?_ _))
  generalize (((w.alloc (.cells #[.int .i64 1, .int .i64 (-1)] 3)).alloc (.cells #[.slice (some ⟨w.heap.size, 0, none⟩) 2 2] 29)).alloc (.cells #[.int .i64 0] 3)).alloc (.cells #[.int .i64 2, .slice (some ⟨w.heap.size + 1, 0, none⟩) 1 1, .slice (some ⟨w.heap.size + 1 + 1, 0, none⟩) 1 1] 37) = w1 at *
  have b0 := bx_cell hB 0 rfl
  have b1 := bx_cell hB 1 rfl
  have b2 := bx_cell hB 2 rfl
  have lB := bx_lt hB
  go_upto_region 3 with (fail)
  have hb2 : Below w1.heap.size w1 ((w1.alloc (.cells #[.string ⟨#[97]⟩, .slice none 0 0, .bool false] 81)).alloc (.cells #[.int .i64 2, .slice (some ⟨w.heap.size + 1, 0, none⟩) 1 1, .slice (some ⟨w.heap.size + 1 + 1, 0, none⟩) 1 1, .slice (some ⟨w1.heap.size, 0, none⟩) 1 1, .int .i64 2, .bool false, .slice none 0 0, .int .i64 3, .int .i64 2] 41)) := (by repeat (first | exact Below.refl _ _ | refine below_alloc ?_ _))
  have hK : ((w1.alloc (.cells #[.string ⟨#[97]⟩, .slice none 0 0, .bool false] 81)).alloc (.cells #[.int .i64 2, .slice (some ⟨w.heap.size + 1, 0, none⟩) 1 1, .slice (some ⟨w.heap.size + 1 + 1, 0, none⟩) 1 1, .slice (some ⟨w1.heap.size, 0, none⟩) 1 1, .int .i64 2, .bool false, .slice none 0 0, .int .i64 3, .int .i64 2] 41)).heap[w1.heap.size]? = some (.cells #[.string ⟨#[97]⟩, .slice none 0 0, .bool false] 81 (0, 0)) := by (repeat (first | (refine hp_new _ _ _ ?_; simp; done) | refine hp_keep ?_ _))
  have hG : ((w1.alloc (.cells #[.string ⟨#[97]⟩, .slice none 0 0, .bool false] 81)).alloc (.cells #[.int .i64 2, .slice (some ⟨w.heap.size + 1, 0, none⟩) 1 1, .slice (some ⟨w.heap.size + 1 + 1, 0, none⟩) 1 1, .slice (some ⟨w1.heap.size, 0, none⟩) 1 1, .int .i64 2, .bool false, .slice none 0 0, .int .i64 3, .int .i64 2] 41)).heap[w1.heap.size + 1]? = some (.cells #[.int .i64 2, .slice (some ⟨w.heap.size + 1, 0, none⟩) 1 1, .slice (some ⟨w.heap.size + 1 + 1, 0, none⟩) 1 1, .slice (some ⟨w1.heap.size, 0, none⟩) 1 1, .int .i64 2, .bool false, .slice none 0 0, .int .i64 3, .int .i64 2] 41 (0, 0)) := by (repeat (first | (refine hp_new _ _ _ ?_; simp; done) | refine hp_keep ?_ _))
  generalize (w1.alloc (.cells #[.string ⟨#[97]⟩, .slice none 0 0, .bool false] 81)).alloc (.cells #[.int .i64 2, .slice (some ⟨w.heap.size + 1, 0, none⟩) 1 1, .slice (some ⟨w.heap.size + 1 + 1, 0, none⟩) 1 1, .slice (some ⟨w1.heap.size, 0, none⟩) 1 1, .int .i64 2, .bool false, .slice none 0 0, .int .i64 3, .int .i64 2] 41) = w2 at *
  clear b0 b1 b2 lB hB
  go_upto_region 4 with (fail)
  have hb3 : Below w2.heap.size w2 ((((w2.alloc (.cells #[.int .i64 1, .int .i64 0] 3)).alloc (.cells #[.int .i64 0] 3)).alloc (.cells #[.int .i64 0] 3)).alloc (.cells #[.slice (some ⟨w2.heap.size, 0, none⟩) 2 2, .slice (some ⟨w2.heap.size + 1, 0, none⟩) 1 1, .slice (some ⟨w2.heap.size + 1 + 1, 0, none⟩) 1 1, .int .i64 2, .int .i64 1] 32)) := (by repeat (first | exact Below.refl _ _ | refine below_alloc ?_ _))
  have hP : ((((w2.alloc (.cells #[.int .i64 1, .int .i64 0] 3)).alloc (.cells #[.int .i64 0] 3)).alloc (.cells #[.int .i64 0] 3)).alloc (.cells #[.slice (some ⟨w2.heap.size, 0, none⟩) 2 2, .slice (some ⟨w2.heap.size + 1, 0, none⟩) 1 1, .slice (some ⟨w2.heap.size + 1 + 1, 0, none⟩) 1 1, .int .i64 2, .int .i64 1] 32)).heap[w2.heap.size + 1 + 1 + 1]? = some (.cells #[.slice (some ⟨w2.heap.size, 0, none⟩) 2 2, .slice (some ⟨w2.heap.size + 1, 0, none⟩) 1 1, .slice (some ⟨w2.heap.size + 1 + 1, 0, none⟩) 1 1, .int .i64 2, .int .i64 1] 32 (0, 0)) := by (repeat (first | (refine hp_new _ _ _ ?_; simp; done) | refine hp_keep ?_ _))
  have hP0 : ((((w2.alloc (.cells #[.int .i64 1, .int .i64 0] 3)).alloc (.cells #[.int .i64 0] 3)).alloc (.cells #[.int .i64 0] 3)).alloc (.cells #[.slice (some ⟨w2.heap.size, 0, none⟩) 2 2, .slice (some ⟨w2.heap.size + 1, 0, none⟩) 1 1, .slice (some ⟨w2.heap.size + 1 + 1, 0, none⟩) 1 1, .int .i64 2, .int .i64 1] 32)).heap[w2.heap.size]? = some (.cells #[.int .i64 1, .int .i64 0] 3 (0, 0)) := by (repeat (first | (refine hp_new _ _ _ ?_; simp; done) | refine hp_keep ?_ _))
  have hP1 : ((((w2.alloc (.cells #[.int .i64 1, .int .i64 0] 3)).alloc (.cells #[.int .i64 0] 3)).alloc (.cells #[.int .i64 0] 3)).alloc (.cells #[.slice (some ⟨w2.heap.size, 0, none⟩) 2 2, .slice (some ⟨w2.heap.size + 1, 0, none⟩) 1 1, .slice (some ⟨w2.heap.size + 1 + 1, 0, none⟩) 1 1, .int .i64 2, .int .i64 1] 32)).heap[w2.heap.size + 1]? = some (.cells #[.int .i64 0] 3 (0, 0)) := by (repeat (first | (refine hp_new _ _ _ ?_; simp; done) | refine hp_keep ?_ _))
  have hP2 : ((((w2.alloc (.cells #[.int .i64 1, .int .i64 0] 3)).alloc (.cells #[.int .i64 0] 3)).alloc (.cells #[.int .i64 0] 3)).alloc (.cells #[.slice (some ⟨w2.heap.size, 0, none⟩) 2 2, .slice (some ⟨w2.heap.size + 1, 0, none⟩) 1 1, .slice (some ⟨w2.heap.size + 1 + 1, 0, none⟩) 1 1, .int .i64 2, .int .i64 1] 32)).heap[w2.heap.size + 1 + 1]? = some (.cells #[.int .i64 0] 3 (0, 0)) := by (repeat (first | (refine hp_new _ _ _ ?_; simp; done) | refine hp_keep ?_ _))
  generalize (((w2.alloc (.cells #[.int .i64 1, .int .i64 0] 3)).alloc (.cells #[.int .i64 0] 3)).alloc (.cells #[.int .i64 0] 3)).alloc (.cells #[.slice (some ⟨w2.heap.size, 0, none⟩) 2 2, .slice (some ⟨w2.heap.size + 1, 0, none⟩) 1 1, .slice (some ⟨w2.heap.size + 1 + 1, 0, none⟩) 1 1, .int .i64 2, .int .i64 1] 32) = w3 at *
  go_upto_region 5 with (fail)
  have hb4 : Below w3.heap.size w3 ((((w3.alloc (.cells #[.int .i64 2, .int .i64 1] 3)).alloc (.cells #[.int .i64 0] 3)).alloc (.cells #[.int .i64 0] 3)).alloc (.cells #[.slice (some ⟨w3.heap.size, 0, none⟩) 2 2, .slice (some ⟨w3.heap.size + 1, 0, none⟩) 1 1, .slice (some ⟨w3.heap.size + 1 + 1, 0, none⟩) 1 1, .int .i64 3, .int .i64 0] 32)) := (by repeat (first | exact Below.refl _ _ | refine below_alloc ?_ _))
  have hQ : ((((w3.alloc (.cells #[.int .i64 2, .int .i64 1] 3)).alloc (.cells #[.int .i64 0] 3)).alloc (.cells #[.int .i64 0] 3)).alloc (.cells #[.slice (some ⟨w3.heap.size, 0, none⟩) 2 2, .slice (some ⟨w3.heap.size + 1, 0, none⟩) 1 1, .slice (some ⟨w3.heap.size + 1 + 1, 0, none⟩) 1 1, .int .i64 3, .int .i64 0] 32)).heap[w3.heap.size + 1 + 1 + 1]? = some (.cells #[.slice (some ⟨w3.heap.size, 0, none⟩) 2 2, .slice (some ⟨w3.heap.size + 1, 0, none⟩) 1 1, .slice (some ⟨w3.heap.size + 1 + 1, 0, none⟩) 1 1, .int .i64 3, .int .i64 0] 32 (0, 0)) := by (repeat (first | (refine hp_new _ _ _ ?_; simp; done) | refine hp_keep ?_ _))
  have hQ0 : ((((w3.alloc (.cells #[.int .i64 2, .int .i64 1] 3)).alloc (.cells #[.int .i64 0] 3)).alloc (.cells #[.int .i64 0] 3)).alloc (.cells #[.slice (some ⟨w3.heap.size, 0, none⟩) 2 2, .slice (some ⟨w3.heap.size + 1, 0, none⟩) 1 1, .slice (some ⟨w3.heap.size + 1 + 1, 0, none⟩) 1 1, .int .i64 3, .int .i64 0] 32)).heap[w3.heap.size]? = some (.cells #[.int .i64 2, .int .i64 1] 3 (0, 0)) := by (repeat (first | (refine hp_new _ _ _ ?_; simp; done) | refine hp_keep ?_ _))
  have hQ1 : ((((w3.alloc (.cells #[.int .i64 2, .int .i64 1] 3)).alloc (.cells #[.int .i64 0] 3)).alloc (.cells #[.int .i64 0] 3)).alloc (.cells #[.slice (some ⟨w3.heap.size, 0, none⟩) 2 2, .slice (some ⟨w3.heap.size + 1, 0, none⟩) 1 1, .slice (some ⟨w3.heap.size + 1 + 1, 0, none⟩) 1 1, .int .i64 3, .int .i64 0] 32)).heap[w3.heap.size + 1]? = some (.cells #[.int .i64 0] 3 (0, 0)) := by (repeat (first | (refine hp_new _ _ _ ?_; simp; done) | refine hp_keep ?_ _))
  have hQ2 : ((((w3.alloc (.cells #[.int .i64 2, .int .i64 1] 3)).alloc (.cells #[.int .i64 0] 3)).alloc (.cells #[.int .i64 0] 3)).alloc (.cells #[.slice (some ⟨w3.heap.size, 0, none⟩) 2 2, .slice (some ⟨w3.heap.size + 1, 0, none⟩) 1 1, .slice (some ⟨w3.heap.size + 1 + 1, 0, none⟩) 1 1, .int .i64 3, .int .i64 0] 32)).heap[w3.heap.size + 1 + 1]? = some (.cells #[.int .i64 0] 3 (0, 0)) := by (repeat (first | (refine hp_new _ _ _ ?_; simp; done) | refine hp_keep ?_ _))
  generalize (((w3.alloc (.cells #[.int .i64 2, .int .i64 1] 3)).alloc (.cells #[.int .i64 0] 3)).alloc (.cells #[.int .i64 0] 3)).alloc (.cells #[.slice (some ⟨w3.heap.size, 0, none⟩) 2 2, .slice (some ⟨w3.heap.size + 1, 0, none⟩) 1 1, .slice (some ⟨w3.heap.size + 1 + 1, 0, none⟩) 1 1, .int .i64 3, .int .i64 0] 32) = w4 at *
  have HE4 := Lib.hid ((((HE.out.up hb1).up hb2).up hb3).up hb4)
  have HB4 := Lib.hid (below_step (below_step (below_step hb1 hb2) hb3) hb4)
  have hK4 := (hb4.block _ (bx_lt ((hb3.block _ (bx_lt hK)).trans hK))).trans ((hb3.block _ (bx_lt hK)).trans hK)
  have hG4 := (hb4.block _ (bx_lt ((hb3.block _ (bx_lt hG)).trans hG))).trans ((hb3.block _ (bx_lt hG)).trans hG)
  have hP4 := (hb4.block _ (bx_lt hP)).trans hP
  have hXP : AOk w4.heap.size w4 ⟨psP, some ⟨w2.heap.size, 0, none⟩, some ⟨w2.heap.size + 1, 0, none⟩, some ⟨w2.heap.size + 1 + 1, 0, none⟩, 2, 1, 1⟩ := ⟨psP_num.fit, ⟨ints_blk ((hb4.block _ (bx_lt hP0)).trans hP0) (Nat.lt_of_lt_of_le (bx_lt hP0) hb4.size) rfl, ints_blk ((hb4.block _ (bx_lt hP1)).trans hP1) (Nat.lt_of_lt_of_le (bx_lt hP1) hb4.size) rfl, ints_blk ((hb4.block _ (bx_lt hP2)).trans hP2) (Nat.lt_of_lt_of_le (bx_lt hP2) hb4.size) rfl⟩⟩
  have hXQ : AOk w4.heap.size w4 ⟨psQ, some ⟨w3.heap.size, 0, none⟩, some ⟨w3.heap.size + 1, 0, none⟩, some ⟨w3.heap.size + 1 + 1, 0, none⟩, 2, 1, 1⟩ := ⟨psQ_num.fit, ⟨ints_blk hQ0 (bx_lt hQ0) rfl, ints_blk hQ1 (bx_lt hQ1) rfl, ints_blk hQ2 (bx_lt hQ2) rfl⟩⟩
  have HK4 : Hid (Keeps w4.heap.size w4 (some ⟨w1.heap.size, 0, none⟩) [false]) := Lib.hid (.inr ⟨w1.heap.size, 0, rfl, bx_lt hK4, fun j hj => by
    obtain rfl : j = 0 := by simpa using hj
    exact bx_cell hK4 2 rfl⟩)
  have HXP := Lib.hid hXP
  have HXQ := Lib.hid hXQ
  have HG4 := Lib.hid hG4
  have HP4 := Lib.hid hP4
  have HQ4 := Lib.hid hQ
  clear hb1 hb2 hb3 hb4 hK hG hP hP0 hP1 hP2 hQ hQ0 hQ1 hQ2 hK4 hG4 hP4 hXP hXQ HE
  generalize w1.heap.size = K at *
  generalize w2.heap.size = P at *
  generalize w3.heap.size = Q at *
  have HB0 : Hid (Below w4.heap.size w4 w4) := Lib.hid (Below.refl _ _)
  have hG := (HB0.out.block _ (bx_lt HG4.out)).trans HG4.out
  have g0 := bx_cell hG 0 rfl
  have g1 := bx_cell hG 1 rfl
  have g2 := bx_cell hG 2 rfl
  have g3 := bx_cell hG 3 rfl
  have g4 := bx_cell hG 4 rfl
  have g5 := bx_cell hG 5 rfl
  have g6 := bx_cell hG 6 rfl
  have g7 := bx_cell hG 7 rfl
  have g8 := bx_cell hG 8 rfl
  have lG := bx_lt hG
  go_wp2_with fail
  refine (parse1_any _ _ _ _ _ _ _ 1 w4.heap.size _ HB0.out.size (HK4.out.to HB0.out (Nat.le_refl _) (Nat.le_refl _)) (HE4.out.up HB0.out)).mono ?_
  rintro e v1 ⟨c1, c10, c11, d1, d10, d11, rfl, ho1, hb⟩
  have HBv1 := Lib.hid (below_step HB0.out hb)
  clear hG g0 g1 g2 g3 g4 g5 g6 g7 g8 lG hb
  unfold PosV
  go_upto_region 6 with (fail)
  have hbA : Below v1.heap.size v1 (v1.alloc (.cells #[.slice c1 posZero.cells.length d1, .slice c10 posZero.h0.length d10, .slice c11 posZero.h1.length d11, .int .i64 posZero.rights, .int .i64 posZero.side] 32)) := below_alloc (Below.refl _ _) _
  have HB1 := Lib.hid (below_step HBv1.out hbA)
  generalize v1.alloc (.cells #[.slice c1 posZero.cells.length d1, .slice c10 posZero.h0.length d10, .slice c11 posZero.h1.length d11, .int .i64 posZero.rights, .int .i64 posZero.side] 32) = x1 at *
  clear hbA ho1
  have hG := (HB1.out.block _ (bx_lt HG4.out)).trans HG4.out
  have g0 := bx_cell hG 0 rfl
  have g1 := bx_cell hG 1 rfl
  have g2 := bx_cell hG 2 rfl
  have g3 := bx_cell hG 3 rfl
  have g4 := bx_cell hG 4 rfl
  have g5 := bx_cell hG 5 rfl
  have g6 := bx_cell hG 6 rfl
  have g7 := bx_cell hG 7 rfl
  have g8 := bx_cell hG 8 rfl
  have lG := bx_lt hG
  go_wp2_with fail
  refine (parse2_any _ _ _ _ _ _ _ 1 w4.heap.size _ HB1.out.size (HK4.out.to HB1.out (Nat.le_refl _) (Nat.le_refl _)) (HE4.out.up HB1.out)).mono ?_
  rintro e v2 ⟨c2, c20, c21, d2, d20, d21, rfl, ho2, hb⟩
  have HBv2 := Lib.hid (below_step HB1.out hb)
  clear hG g0 g1 g2 g3 g4 g5 g6 g7 g8 lG hb
  unfold PosV
  go_upto_region 7 with (fail)
  have hbA : Below v2.heap.size v2 (v2.alloc (.cells #[.slice c2 posZero.cells.length d2, .slice c20 posZero.h0.length d20, .slice c21 posZero.h1.length d21, .int .i64 posZero.rights, .int .i64 posZero.side] 32)) := below_alloc (Below.refl _ _) _
  have HB2 := Lib.hid (below_step HBv2.out hbA)
  generalize v2.alloc (.cells #[.slice c2 posZero.cells.length d2, .slice c20 posZero.h0.length d20, .slice c21 posZero.h1.length d21, .int .i64 posZero.rights, .int .i64 posZero.side] 32) = x2 at *
  clear hbA ho2
  have hG := (HB2.out.block _ (bx_lt HG4.out)).trans HG4.out
  have g0 := bx_cell hG 0 rfl
  have g1 := bx_cell hG 1 rfl
  have g2 := bx_cell hG 2 rfl
  have g3 := bx_cell hG 3 rfl
  have g4 := bx_cell hG 4 rfl
  have g5 := bx_cell hG 5 rfl
  have g6 := bx_cell hG 6 rfl
  have g7 := bx_cell hG 7 rfl
  have g8 := bx_cell hG 8 rfl
  have lG := bx_lt hG
  go_wp2_with fail
  refine (parse3_any _ _ _ _ _ _ _ 1 w4.heap.size _ HB2.out.size (HK4.out.to HB2.out (Nat.le_refl _) (Nat.le_refl _)) (HE4.out.up HB2.out)).mono ?_
  rintro e v3 ⟨c3, c30, c31, d3, d30, d31, rfl, ho3, hb⟩
  have HBv3 := Lib.hid (below_step HB2.out hb)
  clear hG g0 g1 g2 g3 g4 g5 g6 g7 g8 lG hb
  unfold PosV
  go_upto_region 8 with (fail)
  have hbA : Below v3.heap.size v3 (v3.alloc (.cells #[.slice c3 psQ.cells.length d3, .slice c30 psQ.h0.length d30, .slice c31 psQ.h1.length d31, .int .i64 psQ.rights, .int .i64 psQ.side] 32)) := below_alloc (Below.refl _ _) _
  have HR3 := Lib.hid (World.alloc_heap_new v3 (.cells #[.slice c3 psQ.cells.length d3, .slice c30 psQ.h0.length d30, .slice c31 psQ.h1.length d31, .int .i64 psQ.rights, .int .i64 psQ.side] 32))
  have HXR := Lib.hid (show AOk (v3.alloc (.cells #[.slice c3 psQ.cells.length d3, .slice c30 psQ.h0.length d30, .slice c31 psQ.h1.length d31, .int .i64 psQ.rights, .int .i64 psQ.side] 32)).heap.size (v3.alloc (.cells #[.slice c3 psQ.cells.length d3, .slice c30 psQ.h0.length d30, .slice c31 psQ.h1.length d31, .int .i64 psQ.rights, .int .i64 psQ.side] 32)) ⟨psQ, c3, c30, c31, d3, d30, d31⟩ from ⟨psQ_num.fit, (ho3.up hbA).in_⟩)
  have HB3 := Lib.hid (below_step HBv3.out hbA)
  generalize v3.alloc (.cells #[.slice c3 psQ.cells.length d3, .slice c30 psQ.h0.length d30, .slice c31 psQ.h1.length d31, .int .i64 psQ.rights, .int .i64 psQ.side] 32) = x3 at *
  clear hbA ho3
  have HE5 := Lib.hid (HE4.out.up HB3.out)
  have HG5 := Lib.hid ((HB3.out.block _ (bx_lt HG4.out)).trans HG4.out)
  have HP5 := Lib.hid ((HB3.out.block _ (bx_lt HP4.out)).trans HP4.out)
  have HQ5 := Lib.hid ((HB3.out.block _ (bx_lt HQ4.out)).trans HQ4.out)
  have HXP5 := Lib.hid ((HXP.out.up (Nat.le_refl _) HB3.out).mono HB3.out.size)
  have HXQ5 := Lib.hid ((HXQ.out.up (Nat.le_refl _) HB3.out).mono HB3.out.size)
  have HK5 := Lib.hid (HK4.out.to HB3.out (Nat.le_refl _) HB3.out.size)
  have HB5 := Lib.hid (below_step HB4.out HB3.out)
  have HC0 : Hid (Below x3.heap.size x3 x3) := Lib.hid (Below.refl _ _)
  clear HE4 HG4 HP4 HQ4 HXP HXQ HK4 HB4 HB0 HBv1 HB1 HBv2 HB2 HBv3 HB3
  have hP := (HC0.out.block _ (bx_lt HP5.out)).trans HP5.out
  have p0 := bx_cell hP 0 rfl
  have p1 := bx_cell hP 1 rfl
  have p2 := bx_cell hP 2 rfl
  have p3 := bx_cell hP 3 rfl
  have p4 := bx_cell hP 4 rfl
  have lP := bx_lt hP
  have hQ := (HC0.out.block _ (bx_lt HQ5.out)).trans HQ5.out
  have q0 := bx_cell hQ 0 rfl
  have q1 := bx_cell hQ 1 rfl
  have q2 := bx_cell hQ 2 rfl
  have q3 := bx_cell hQ 3 rfl
  have q4 := bx_cell hQ 4 rfl
  have lQ := bx_lt hQ
  go_wp2_with fail
  have hbA : Below x3.heap.size x3 (x3.alloc (.cells #[.slice (some ⟨Q, 0, none⟩) 2 2, .slice (some ⟨Q + 1, 0, none⟩) 1 1, .slice (some ⟨Q + 1 + 1, 0, none⟩) 1 1, .int .i64 3, .int .i64 0, .slice (some ⟨P, 0, none⟩) 2 2, .slice (some ⟨P + 1, 0, none⟩) 1 1, .slice (some ⟨P + 1 + 1, 0, none⟩) 1 1, .int .i64 2, .int .i64 1, .slice (some ⟨Q, 0, none⟩) 2 2, .slice (some ⟨Q + 1, 0, none⟩) 1 1, .slice (some ⟨Q + 1 + 1, 0, none⟩) 1 1, .int .i64 3, .int .i64 0] 32)) := below_alloc (Below.refl _ _) _
  have hps := psAt_new x3 [⟨psQ, some ⟨Q, 0, none⟩, some ⟨Q + 1, 0, none⟩, some ⟨Q + 1 + 1, 0, none⟩, 2, 1, 1⟩, ⟨psP, some ⟨P, 0, none⟩, some ⟨P + 1, 0, none⟩, some ⟨P + 1 + 1, 0, none⟩, 2, 1, 1⟩, ⟨psQ, some ⟨Q, 0, none⟩, some ⟨Q + 1, 0, none⟩, some ⟨Q + 1 + 1, 0, none⟩, 2, 1, 1⟩] #[.slice (some ⟨Q, 0, none⟩) 2 2, .slice (some ⟨Q + 1, 0, none⟩) 1 1, .slice (some ⟨Q + 1 + 1, 0, none⟩) 1 1, .int .i64 3, .int .i64 0, .slice (some ⟨P, 0, none⟩) 2 2, .slice (some ⟨P + 1, 0, none⟩) 1 1, .slice (some ⟨P + 1 + 1, 0, none⟩) 1 1, .int .i64 2, .int .i64 1, .slice (some ⟨Q, 0, none⟩) 2 2, .slice (some ⟨Q + 1, 0, none⟩) 1 1, .slice (some ⟨Q + 1 + 1, 0, none⟩) 1 1, .int .i64 3, .int .i64 0] 32 rfl
  have HBA := Lib.hid hbA
  generalize x3.alloc (.cells #[.slice (some ⟨Q, 0, none⟩) 2 2, .slice (some ⟨Q + 1, 0, none⟩) 1 1, .slice (some ⟨Q + 1 + 1, 0, none⟩) 1 1, .int .i64 3, .int .i64 0, .slice (some ⟨P, 0, none⟩) 2 2, .slice (some ⟨P + 1, 0, none⟩) 1 1, .slice (some ⟨P + 1 + 1, 0, none⟩) 1 1, .int .i64 2, .int .i64 1, .slice (some ⟨Q, 0, none⟩) 2 2, .slice (some ⟨Q + 1, 0, none⟩) 1 1, .slice (some ⟨Q + 1 + 1, 0, none⟩) 1 1, .int .i64 3, .int .i64 0] 32) = x4 at *
  refine (sort_any [⟨psQ, some ⟨Q, 0, none⟩, some ⟨Q + 1, 0, none⟩, some ⟨Q + 1 + 1, 0, none⟩, 2, 1, 1⟩, ⟨psP, some ⟨P, 0, none⟩, some ⟨P + 1, 0, none⟩, some ⟨P + 1 + 1, 0, none⟩, 2, 1, 1⟩, ⟨psQ, some ⟨Q, 0, none⟩, some ⟨Q + 1, 0, none⟩, some ⟨Q + 1 + 1, 0, none⟩, 2, 1, 1⟩] x3.heap.size 0 3 x3.heap.size x4 HBA.out.size (by simp) (all3 (HXQ5.out.up (Nat.le_refl _) HBA.out) (HXP5.out.up (Nat.le_refl _) HBA.out)) (all3' psQ_small psP_small) hps).mono ?_
  rintro e y1 ⟨R, rg, rc, rfl, hRm, hRo, hRp, hb⟩
  replace hRm : R.map (·.p) = [psP, psQ] := hRm.trans ps_sort
  have HC1 := Lib.hid (below_step HBA.out hb)
  have HRA := Lib.hid (ok2 hRm hRp)
  have HRI : Hid (PsIn y1 (some ⟨rg, 0, none⟩) R) := Lib.hid (.inr ⟨rg, 0, rfl, hRo.in_⟩)
  have hRl : R.length = 2 := by have := congrArg List.length hRm; simpa using this
  have HRM := Lib.hid hRm
  rw [hRl]
  have HRL := Lib.hid hRl
  clear hRm hRo hRp hb hps hbA HBA hRl
  clear hP p0 p1 p2 p3 p4 lP
  clear hQ q0 q1 q2 q3 q4 lQ
  have hG := (HC1.out.block _ (bx_lt HG5.out)).trans HG5.out
  have g0 := bx_cell hG 0 rfl
  have g1 := bx_cell hG 1 rfl
  have g2 := bx_cell hG 2 rfl
  have g3 := bx_cell hG 3 rfl
  have g4 := bx_cell hG 4 rfl
  have g5 := bx_cell hG 5 rfl
  have g6 := bx_cell hG 6 rfl
  have g7 := bx_cell hG 7 rfl
  have g8 := bx_cell hG 8 rfl
  have lG := bx_lt hG
  have hP := (HC1.out.block _ (bx_lt HP5.out)).trans HP5.out
  have p0 := bx_cell hP 0 rfl
  have p1 := bx_cell hP 1 rfl
  have p2 := bx_cell hP 2 rfl
  have p3 := bx_cell hP 3 rfl
  have p4 := bx_cell hP 4 rfl
  have lP := bx_lt hP
  go_wp2_with fail
  refine (print_any _ _ _ _ _ _ _ _ _ psP _ _ _ _ _ _ x3.heap.size y1 psP_num (HE5.out.up HC1.out) HC1.out.size (HXP5.out.up (Nat.le_refl _) HC1.out).lies).mono ?_
  rintro e y2 ⟨rfl, hb⟩
  rw [psP_text]
  unfold txP
  have HC2 := Lib.hid (below_step HC1.out hb)
  have HD2 := Lib.hid hb
  clear hb
  clear hG g0 g1 g2 g3 g4 g5 g6 g7 g8 lG
  clear hP p0 p1 p2 p3 p4 lP
  have hP := (HC2.out.block _ (bx_lt HP5.out)).trans HP5.out
  have p0 := bx_cell hP 0 rfl
  have p1 := bx_cell hP 1 rfl
  have p2 := bx_cell hP 2 rfl
  have p3 := bx_cell hP 3 rfl
  have p4 := bx_cell hP 4 rfl
  have lP := bx_lt hP
  go_wp2_with fail
  refine (key_any psP _ _ _ _ _ _ x3.heap.size y2 (by decide) HC2.out.size (HXP5.out.up (Nat.le_refl _) HC2.out).lies).mono ?_
  rintro e y3 ⟨rfl, hb⟩
  rw [psP_key]
  have HC3 := Lib.hid (below_step HC2.out hb)
  have HD3 := Lib.hid (below_step HD2.out hb)
  clear hb HD2
  clear hP p0 p1 p2 p3 p4 lP
  have hR := (HC3.out.block _ (bx_lt HR3.out)).trans HR3.out
  have r0 := bx_cell hR 0 rfl
  have r1 := bx_cell hR 1 rfl
  have r2 := bx_cell hR 2 rfl
  have r3 := bx_cell hR 3 rfl
  have r4 := bx_cell hR 4 rfl
  have lR := bx_lt hR
  have hQ := (HC3.out.block _ (bx_lt HQ5.out)).trans HQ5.out
  have q0 := bx_cell hQ 0 rfl
  have q1 := bx_cell hQ 1 rfl
  have q2 := bx_cell hQ 2 rfl
  have q3 := bx_cell hQ 3 rfl
  have q4 := bx_cell hQ 4 rfl
  have lQ := bx_lt hQ
  go_wp2_with fail
  refine (rsame_any ⟨psQ, c3, c30, c31, d3, d30, d31⟩ ⟨psQ, some ⟨Q, 0, none⟩, some ⟨Q + 1, 0, none⟩, some ⟨Q + 1 + 1, 0, none⟩, 2, 1, 1⟩ x3.heap.size y3 (HXR.out.up (Nat.le_refl _) HC3.out) (HXQ5.out.up (Nat.le_refl _) HC3.out) HC3.out.size).mono ?_
  rintro e y4 ⟨rfl, hb⟩
  have HC4 := Lib.hid (below_step HC3.out hb)
  have HD4 := Lib.hid (below_step HD3.out hb)
  rw [show decide (psQ = psQ) = true from by simp]
  clear hb HD3
  clear hR r0 r1 r2 r3 r4 lR
  clear hQ q0 q1 q2 q3 q4 lQ
  have hP := (HC4.out.block _ (bx_lt HP5.out)).trans HP5.out
  have p0 := bx_cell hP 0 rfl
  have p1 := bx_cell hP 1 rfl
  have p2 := bx_cell hP 2 rfl
  have p3 := bx_cell hP 3 rfl
  have p4 := bx_cell hP 4 rfl
  have lP := bx_lt hP
  have hQ := (HC4.out.block _ (bx_lt HQ5.out)).trans HQ5.out
  have q0 := bx_cell hQ 0 rfl
  have q1 := bx_cell hQ 1 rfl
  have q2 := bx_cell hQ 2 rfl
  have q3 := bx_cell hQ 3 rfl
  have q4 := bx_cell hQ 4 rfl
  have lQ := bx_lt hQ
  go_wp2_with fail
  have hbA : Below y4.heap.size y4 (y4.alloc (.cells #[.slice (some ⟨P, 0, none⟩) 2 2, .slice (some ⟨P + 1, 0, none⟩) 1 1, .slice (some ⟨P + 1 + 1, 0, none⟩) 1 1, .int .i64 2, .int .i64 1, .slice (some ⟨Q, 0, none⟩) 2 2, .slice (some ⟨Q + 1, 0, none⟩) 1 1, .slice (some ⟨Q + 1 + 1, 0, none⟩) 1 1, .int .i64 3, .int .i64 0] 32)) := below_alloc (Below.refl _ _) _
  have hps := psAt_new y4 [⟨psP, some ⟨P, 0, none⟩, some ⟨P + 1, 0, none⟩, some ⟨P + 1 + 1, 0, none⟩, 2, 1, 1⟩, ⟨psQ, some ⟨Q, 0, none⟩, some ⟨Q + 1, 0, none⟩, some ⟨Q + 1 + 1, 0, none⟩, 2, 1, 1⟩] #[.slice (some ⟨P, 0, none⟩) 2 2, .slice (some ⟨P + 1, 0, none⟩) 1 1, .slice (some ⟨P + 1 + 1, 0, none⟩) 1 1, .int .i64 2, .int .i64 1, .slice (some ⟨Q, 0, none⟩) 2 2, .slice (some ⟨Q + 1, 0, none⟩) 1 1, .slice (some ⟨Q + 1 + 1, 0, none⟩) 1 1, .int .i64 3, .int .i64 0] 32 rfl
  have HCa := Lib.hid (below_step HC4.out hbA)
  have HDa := Lib.hid (below_step HD4.out hbA)
  generalize y4.alloc (.cells #[.slice (some ⟨P, 0, none⟩) 2 2, .slice (some ⟨P + 1, 0, none⟩) 1 1, .slice (some ⟨P + 1 + 1, 0, none⟩) 1 1, .int .i64 2, .int .i64 1, .slice (some ⟨Q, 0, none⟩) 2 2, .slice (some ⟨Q + 1, 0, none⟩) 1 1, .slice (some ⟨Q + 1 + 1, 0, none⟩) 1 1, .int .i64 3, .int .i64 0] 32) = ya at *
  have hls := rlists_any R [⟨psP, some ⟨P, 0, none⟩, some ⟨P + 1, 0, none⟩, some ⟨P + 1 + 1, 0, none⟩, 2, 1, 1⟩, ⟨psQ, some ⟨Q, 0, none⟩, some ⟨Q + 1, 0, none⟩, some ⟨Q + 1 + 1, 0, none⟩, 2, 1, 1⟩] (some ⟨rg, 0, none⟩) (some ⟨y4.heap.size, 0, none⟩) rc 2 ya.heap.size ya (Nat.le_refl _) (by rw [HRL.out]; decide) (fun x hx => ((HRA.out x hx).up (Nat.le_refl _) HDa.out).mono HDa.out.size) (all2 ((HXP5.out.up (Nat.le_refl _) HCa.out).mono HCa.out.size) ((HXQ5.out.up (Nat.le_refl _) HCa.out).mono HCa.out.size)) (HRI.out.up HDa.out) (.inr ⟨y4.heap.size, 0, rfl, hps⟩)
  rw [HRL.out] at hls
  refine Calls.mono hls ?_
  clear hls
  rintro e y5 ⟨rfl, hb⟩
  rw [show decide (R.map (·.p) = ([⟨psP, some ⟨P, 0, none⟩, some ⟨P + 1, 0, none⟩, some ⟨P + 1 + 1, 0, none⟩, 2, 1, 1⟩, ⟨psQ, some ⟨Q, 0, none⟩, some ⟨Q + 1, 0, none⟩, some ⟨Q + 1 + 1, 0, none⟩, 2, 1, 1⟩] : List PosA).map (·.p)) = true from by rw [HRM.out]; simp]
  have HC5 := Lib.hid (below_step HCa.out hb)
  clear hb hbA hps HDa HCa HD4
  clear hP p0 p1 p2 p3 p4 lP
  clear hQ q0 q1 q2 q3 q4 lQ
  have hP := (HC5.out.block _ (bx_lt HP5.out)).trans HP5.out
  have p0 := bx_cell hP 0 rfl
  have p1 := bx_cell hP 1 rfl
  have p2 := bx_cell hP 2 rfl
  have p3 := bx_cell hP 3 rfl
  have p4 := bx_cell hP 4 rfl
  have lP := bx_lt hP
  have hQ := (HC5.out.block _ (bx_lt HQ5.out)).trans HQ5.out
  have q0 := bx_cell hQ 0 rfl
  have q1 := bx_cell hQ 1 rfl
  have q2 := bx_cell hQ 2 rfl
  have q3 := bx_cell hQ 3 rfl
  have q4 := bx_cell hQ 4 rfl
  have lQ := bx_lt hQ
  go_wp2_with fail
  have hbA : Below y5.heap.size y5 (y5.alloc (.cells #[.slice (some ⟨P, 0, none⟩) 2 2, .slice (some ⟨P + 1, 0, none⟩) 1 1, .slice (some ⟨P + 1 + 1, 0, none⟩) 1 1, .int .i64 2, .int .i64 1, .slice (some ⟨Q, 0, none⟩) 2 2, .slice (some ⟨Q + 1, 0, none⟩) 1 1, .slice (some ⟨Q + 1 + 1, 0, none⟩) 1 1, .int .i64 3, .int .i64 0] 32)) := below_alloc (Below.refl _ _) _
  have hps := psAt_new y5 [⟨psP, some ⟨P, 0, none⟩, some ⟨P + 1, 0, none⟩, some ⟨P + 1 + 1, 0, none⟩, 2, 1, 1⟩, ⟨psQ, some ⟨Q, 0, none⟩, some ⟨Q + 1, 0, none⟩, some ⟨Q + 1 + 1, 0, none⟩, 2, 1, 1⟩] #[.slice (some ⟨P, 0, none⟩) 2 2, .slice (some ⟨P + 1, 0, none⟩) 1 1, .slice (some ⟨P + 1 + 1, 0, none⟩) 1 1, .int .i64 2, .int .i64 1, .slice (some ⟨Q, 0, none⟩) 2 2, .slice (some ⟨Q + 1, 0, none⟩) 1 1, .slice (some ⟨Q + 1 + 1, 0, none⟩) 1 1, .int .i64 3, .int .i64 0] 32 rfl
  have HCb := Lib.hid (below_step HC5.out hbA)
  generalize y5.alloc (.cells #[.slice (some ⟨P, 0, none⟩) 2 2, .slice (some ⟨P + 1, 0, none⟩) 1 1, .slice (some ⟨P + 1 + 1, 0, none⟩) 1 1, .int .i64 2, .int .i64 1, .slice (some ⟨Q, 0, none⟩) 2 2, .slice (some ⟨Q + 1, 0, none⟩) 1 1, .slice (some ⟨Q + 1 + 1, 0, none⟩) 1 1, .int .i64 3, .int .i64 0] 32) = yb at *
  refine (find_any [⟨psP, some ⟨P, 0, none⟩, some ⟨P + 1, 0, none⟩, some ⟨P + 1 + 1, 0, none⟩, 2, 1, 1⟩, ⟨psQ, some ⟨Q, 0, none⟩, some ⟨Q + 1, 0, none⟩, some ⟨Q + 1 + 1, 0, none⟩, 2, 1, 1⟩] ⟨psQ, some ⟨Q, 0, none⟩, some ⟨Q + 1, 0, none⟩, some ⟨Q + 1 + 1, 0, none⟩, 2, 1, 1⟩ _ _ x3.heap.size yb HCb.out.size (by simp) ps_srt (all2 (HXP5.out.up (Nat.le_refl _) HCb.out) (HXQ5.out.up (Nat.le_refl _) HCb.out)) (HXQ5.out.up (Nat.le_refl _) HCb.out) ⟨_, _, rfl, hps⟩).mono ?_
  rintro e y6 ⟨rfl, hb⟩
  rw [show findS (([⟨psP, some ⟨P, 0, none⟩, some ⟨P + 1, 0, none⟩, some ⟨P + 1 + 1, 0, none⟩, 2, 1, 1⟩, ⟨psQ, some ⟨Q, 0, none⟩, some ⟨Q + 1, 0, none⟩, some ⟨Q + 1 + 1, 0, none⟩, 2, 1, 1⟩] : List PosA).map (·.p)) psQ = 1 from ps_find]
  have HC6 := Lib.hid (below_step HCb.out hb)
  clear hb hbA hps HCb
  clear hP p0 p1 p2 p3 p4 lP
  clear hQ q0 q1 q2 q3 q4 lQ
  have hP := (HC6.out.block _ (bx_lt HP5.out)).trans HP5.out
  have p0 := bx_cell hP 0 rfl
  have p1 := bx_cell hP 1 rfl
  have p2 := bx_cell hP 2 rfl
  have p3 := bx_cell hP 3 rfl
  have p4 := bx_cell hP 4 rfl
  have lP := bx_lt hP
  have hQ := (HC6.out.block _ (bx_lt HQ5.out)).trans HQ5.out
  have q0 := bx_cell hQ 0 rfl
  have q1 := bx_cell hQ 1 rfl
  have q2 := bx_cell hQ 2 rfl
  have q3 := bx_cell hQ 3 rfl
  have q4 := bx_cell hQ 4 rfl
  have lQ := bx_lt hQ
  go_wp2_with fail
  have hbA : Below y6.heap.size y6 (y6.alloc (.cells #[.slice (some ⟨P, 0, none⟩) 2 2, .slice (some ⟨P + 1, 0, none⟩) 1 1, .slice (some ⟨P + 1 + 1, 0, none⟩) 1 1, .int .i64 2, .int .i64 1] 32)) := below_alloc (Below.refl _ _) _
  have hps := psAt_new y6 [⟨psP, some ⟨P, 0, none⟩, some ⟨P + 1, 0, none⟩, some ⟨P + 1 + 1, 0, none⟩, 2, 1, 1⟩] #[.slice (some ⟨P, 0, none⟩) 2 2, .slice (some ⟨P + 1, 0, none⟩) 1 1, .slice (some ⟨P + 1 + 1, 0, none⟩) 1 1, .int .i64 2, .int .i64 1] 32 rfl
  have HCc := Lib.hid (below_step HC6.out hbA)
  generalize y6.alloc (.cells #[.slice (some ⟨P, 0, none⟩) 2 2, .slice (some ⟨P + 1, 0, none⟩) 1 1, .slice (some ⟨P + 1 + 1, 0, none⟩) 1 1, .int .i64 2, .int .i64 1] 32) = yc at *
  refine (find_any [⟨psP, some ⟨P, 0, none⟩, some ⟨P + 1, 0, none⟩, some ⟨P + 1 + 1, 0, none⟩, 2, 1, 1⟩] ⟨psQ, some ⟨Q, 0, none⟩, some ⟨Q + 1, 0, none⟩, some ⟨Q + 1 + 1, 0, none⟩, 2, 1, 1⟩ _ _ x3.heap.size yc HCc.out.size (by simp) ps_srt1 (all1 (HXP5.out.up (Nat.le_refl _) HCc.out)) (HXQ5.out.up (Nat.le_refl _) HCc.out) ⟨_, _, rfl, hps⟩).mono ?_
  rintro e y7 ⟨rfl, hb⟩
  rw [show findS (([⟨psP, some ⟨P, 0, none⟩, some ⟨P + 1, 0, none⟩, some ⟨P + 1 + 1, 0, none⟩, 2, 1, 1⟩] : List PosA).map (·.p)) psQ = -1 from ps_none]
  have HC7 := Lib.hid (below_step HCc.out hb)
  clear hb hbA hps HCc
  clear hP p0 p1 p2 p3 p4 lP
  clear hQ q0 q1 q2 q3 q4 lQ
  have hP := (HC7.out.block _ (bx_lt HP5.out)).trans HP5.out
  have p0 := bx_cell hP 0 rfl
  have p1 := bx_cell hP 1 rfl
  have p2 := bx_cell hP 2 rfl
  have p3 := bx_cell hP 3 rfl
  have p4 := bx_cell hP 4 rfl
  have lP := bx_lt hP
  have hQ := (HC7.out.block _ (bx_lt HQ5.out)).trans HQ5.out
  have q0 := bx_cell hQ 0 rfl
  have q1 := bx_cell hQ 1 rfl
  have q2 := bx_cell hQ 2 rfl
  have q3 := bx_cell hQ 3 rfl
  have q4 := bx_cell hQ 4 rfl
  have lQ := bx_lt hQ
  go_wp2_with fail
  refine (compare_any psP psQ _ _ _ _ _ _ _ _ _ _ _ _ x3.heap.size y7 psP_num.fit HC7.out.size (HXP5.out.up (Nat.le_refl _) HC7.out).lies (HXQ5.out.up (Nat.le_refl _) HC7.out).lies).mono ?_
  rintro e y8 ⟨rfl, hb⟩
  rw [ps_cmp]
  have HC8 := Lib.hid (below_step HC7.out hb)
  clear hb
  clear hP p0 p1 p2 p3 p4 lP
  clear hQ q0 q1 q2 q3 q4 lQ
  have hG := (HC8.out.block _ (bx_lt HG5.out)).trans HG5.out
  have g0 := bx_cell hG 0 rfl
  have g1 := bx_cell hG 1 rfl
  have g2 := bx_cell hG 2 rfl
  have g3 := bx_cell hG 3 rfl
  have g4 := bx_cell hG 4 rfl
  have g5 := bx_cell hG 5 rfl
  have g6 := bx_cell hG 6 rfl
  have g7 := bx_cell hG 7 rfl
  have g8 := bx_cell hG 8 rfl
  have lG := bx_lt hG
  have hP := (HC8.out.block _ (bx_lt HP5.out)).trans HP5.out
  have p0 := bx_cell hP 0 rfl
  have p1 := bx_cell hP 1 rfl
  have p2 := bx_cell hP 2 rfl
  have p3 := bx_cell hP 3 rfl
  have p4 := bx_cell hP 4 rfl
  have lP := bx_lt hP
  go_wp2_with fail
  refine (posValid_any 2 2 [false] _ _ _ _ _ _ psP _ _ _ _ 1 _ _ _ x3.heap.size y8 (by decide) (by decide) psP_num.fit HC8.out.size (HXP5.out.up (Nat.le_refl _) HC8.out).lies (HK5.out.to HC8.out (Nat.le_refl _) (Nat.le_refl _))).mono ?_
  rintro e y9 ⟨rfl, hb⟩
  rw [psP_v]
  have HC9 := Lib.hid (below_step HC8.out hb)
  clear hb
  clear hG g0 g1 g2 g3 g4 g5 g6 g7 g8 lG
  clear hP p0 p1 p2 p3 p4 lP
  have hG := (HC9.out.block _ (bx_lt HG5.out)).trans HG5.out
  have g0 := bx_cell hG 0 rfl
  have g1 := bx_cell hG 1 rfl
  have g2 := bx_cell hG 2 rfl
  have g3 := bx_cell hG 3 rfl
  have g4 := bx_cell hG 4 rfl
  have g5 := bx_cell hG 5 rfl
  have g6 := bx_cell hG 6 rfl
  have g7 := bx_cell hG 7 rfl
  have g8 := bx_cell hG 8 rfl
  have lG := bx_lt hG
  go_wp2_with fail
  refine (posValid_any 2 2 [false] _ _ _ _ _ _ posZero _ none none none 1 0 0 0 x3.heap.size y9 (by decide) (by decide) ⟨Nat.zero_le _, Nat.zero_le _, Nat.zero_le _⟩ HC9.out.size ⟨.inl rfl, .inl rfl, .inl rfl⟩ (HK5.out.to HC9.out (Nat.le_refl _) (Nat.le_refl _))).mono ?_
  rintro e z1 ⟨rfl, hb⟩
  rw [ps0_v]
  have HCd := Lib.hid (below_step HC9.out hb)
  clear hb
  clear hG g0 g1 g2 g3 g4 g5 g6 g7 g8 lG
  have hG := (HCd.out.block _ (bx_lt HG5.out)).trans HG5.out
  have g0 := bx_cell hG 0 rfl
  have g1 := bx_cell hG 1 rfl
  have g2 := bx_cell hG 2 rfl
  have g3 := bx_cell hG 3 rfl
  have g4 := bx_cell hG 4 rfl
  have g5 := bx_cell hG 5 rfl
  have g6 := bx_cell hG 6 rfl
  have g7 := bx_cell hG 7 rfl
  have g8 := bx_cell hG 8 rfl
  have lG := bx_lt hG
  have hQ := (HCd.out.block _ (bx_lt HQ5.out)).trans HQ5.out
  have q0 := bx_cell hQ 0 rfl
  have q1 := bx_cell hQ 1 rfl
  have q2 := bx_cell hQ 2 rfl
  have q3 := bx_cell hQ 3 rfl
  have q4 := bx_cell hQ 4 rfl
  have lQ := bx_lt hQ
  go_wp2_with fail
  refine (count_any 1 1 _ _ _ _ _ _ _ _ psQ _ _ _ _ 1 _ _ _ x3.heap.size z1 (by decide) psQ_num.fit HCd.out.size (HXQ5.out.up (Nat.le_refl _) HCd.out).lies).mono ?_
  rintro e z2 ⟨v, rfl, hvo, hb⟩
  rw [psQ_count] at hvo
  obtain ⟨va, vc, rfl, hvi⟩ := hvo.ints
  have HCe := Lib.hid (below_step HCd.out hb)
  clear hb hvo
  clear hG g0 g1 g2 g3 g4 g5 g6 g7 g8 lG
  clear hQ q0 q1 q2 q3 q4 lQ
  go_wp2_with fail
  have hbA : Below z2.heap.size z2 (z2.alloc (.cells #[.int .i64 1] 3)) := below_alloc (Below.refl _ _) _
  have hli : Ints (z2.heap.size + 1) (z2.alloc (.cells #[.int .i64 1] 3)) (some ⟨z2.heap.size, 0, none⟩) [1] := .inr ⟨z2.heap.size, 0, rfl, by omega, fun j hj => by
    obtain rfl : j = 0 := by simpa using hj
    exact cell_new_at _ _ _ _ _ _ rfl rfl⟩
  have hvj := ((hvi.up (Nat.le_refl _) hbA).mono (Nat.le_succ _))
  have HCf := Lib.hid (below_step HCe.out hbA)
  generalize z2.alloc (.cells #[.int .i64 1] 3) = z3 at *
  refine (ints1_any [1] [1] _ _ _ _ _ z3 (by unfold maxLen; simp) hvj hli).mono ?_
  rintro e z4 ⟨rfl, q, rfl⟩
  rw [show decide (([1] : List Int) = [1]) = true from by simp]
  have HEnd := Lib.hid (below_step HB5.out (below_drewN_ HCf.out q))
  clear hvj hli hvi hbA
  go_wp2
  go_ret
  exact ⟨rfl, HEnd.out⟩
end Go.Proofs.YtphhkfelpckilaaGreatDoor
