/-
  IndexMatchesReference.
-/
import Derived.Test.YtepbmgbomdekaaaXRks
import Derived.Test.YtepbmgbomdekaaaXRRk
import Derived.Test.YtepbmgbomdekaaaXRAt
import Derived.Test.YtepbmgbomdekaaaXAtO
import Derived.Test.YtepbmgbomdekaaaDRefC
namespace Go.Proofs.Ytepbmgbomdekaaa
open Go Go.RowKit

/-- What a round of the law loads: the game, a material of the three, a number of the arbitrary position. -/
structure MC (y S o bx : Nat) (G : List Value) (z : PosA) (xr : Int) (W : World) : Prop where
  hg : W.heap[y]? = some (.cells G.toArray 35 (0, 0))
  m0 : W.cell? ⟨S, o, none⟩ = some (.slice z.a z.p.cells.length z.c)
  m1 : W.cell? ⟨S, o + 1, none⟩ = some (.slice z.a0 z.p.h0.length z.c0)
  m2 : W.cell? ⟨S, o + 2, none⟩ = some (.slice z.a1 z.p.h1.length z.c1)
  m3 : W.cell? ⟨S, o + 3, none⟩ = some (.int .i64 z.p.rights)
  m4 : W.cell? ⟨S, o + 4, none⟩ = some (.int .i64 z.p.side)
  x3 : W.cell? ⟨bx, 3, none⟩ = some (.int .i64 xr)
theorem MC.up {y S o bx : Nat} {G : List Value} {z : PosA} {xr : Int} {W W' : World} (h : MC y S o bx G z xr W) (hb : Below W.heap.size W W') : MC y S o bx G z xr W' :=
  ⟨hp_up h.hg hb, cell_up h.m0 hb, cell_up h.m1 hb, cell_up h.m2 hb, cell_up h.m3 hb, cell_up h.m4 hb, cell_up h.x3 hb⟩
theorem mc_of {y S bx k : Nat} {G : List Value} {L : List PosA} {z : PosA} {xr : Int} {W : World} (hg : W.heap[y]? = some (.cells G.toArray 35 (0, 0))) (hS : W.heap[S]? = some (.cells (L.flatMap PosA.enc).toArray 39 (0, 0))) (hk : k < L.length) (hz : L[k] = z) (hx : W.cell? ⟨bx, 3, none⟩ = some (.int .i64 xr)) : MC y S (k * 5) bx G z xr W := by
  have key : ∀ c v, c < 5 → (PosA.enc z)[c]? = some v → W.cell? ⟨S, k * 5 + c, none⟩ = some v := fun c v hc hv => by
    refine bx_cell hS (k * 5 + c) ?_
    rw [List.getElem?_toArray, fm_get PosA.enc_len L k c hk hc, hz, hv]
  exact ⟨hg, key 0 _ (by omega) rfl, key 1 _ (by omega) rfl, key 2 _ (by omega) rfl, key 3 _ (by omega) rfl, key 4 _ (by omega) rfl, hx⟩
theorem mat_enc {m nk h : Nat} {q : List Nat} (a a0 a1 : Option Addr) (d d0 d1 : Nat) : PosA.enc ⟨matS m q (fldP nk q h), a, a0, a1, d, d0, d1⟩ = [.slice a m d, .slice a0 nk d0, .slice a1 nk d1, .int .i64 1, .int .i64 0] := by
  unfold PosA.enc matS fldP
  dsimp only
  rw [zs_len, countN_len, List.length_replicate, List.length_set, List.length_replicate]
theorem mix_enc {nk h : Nat} {q : List Nat} (c : List Int) (a a0 a1 : Option Addr) (d d0 d1 : Nat) : PosA.enc ⟨{ fldP nk q h with cells := c }, a, a0, a1, d, d0, d1⟩ = [.slice a c.length d, .slice a0 nk d0, .slice a1 nk d1, .int .i64 1, .int .i64 0] := by
  unfold PosA.enc fldP
  dsimp only
  rw [List.length_replicate, List.length_set, List.length_replicate]
theorem atS_len (l : List Nat) (n i : Nat) : (atS l n i).length = n := by
  induction n generalizing l i with
  | zero => rfl
  | succ n ih => simp only [atS, List.length_cons, ih]
theorem atV_fit {bc r : Nat} {ks : List Bool} {p : PosS} (hb : bc ≤ 64) (h : PosFit p) (i : Int) : PosFit (atV bc r ks p i).1 := by
  have hz : PosFit zeroP := ⟨by simp [maxLen, zeroP], by simp [maxLen, zeroP], by simp [maxLen, zeroP]⟩
  unfold atV
  split
  · split
    · exact ⟨by dsimp only; rw [zs_len, atS_len]; unfold maxLen; omega, h.h0, h.h1⟩
    · exact hz
  · exact hz
theorem POwn.mono0 {n : Nat} {W : World} {a a0 a1 : Option Addr} {d d0 d1 : Nat} {p : PosS} (h : POwn n W a a0 a1 d d0 d1 p) : POwn 0 W a a0 a1 d d0 d1 p := ⟨OwnInts.mono h.cells (Nat.zero_le _), OwnInts.mono h.h0 (Nat.zero_le _), OwnInts.mono h.h1 (Nat.zero_le _)⟩
theorem MC.row {y S o bx B : Nat} {G : List Value} {z : PosA} {xr : Int} {W : World} {cs : Array Value} (h : MC y S o bx G z xr W) (h1 : ¬ y = B) (h2 : ¬ S = B) (h3 : ¬ bx = B) : MC y S o bx G z xr (W.setRow B cs) :=
  ⟨(setRow_other W B y cs h1).trans h.hg, (World.cell?_of_block (a := ⟨S, o, none⟩) (setRow_other W B S cs h2)).trans h.m0, (World.cell?_of_block (a := ⟨S, o + 1, none⟩) (setRow_other W B S cs h2)).trans h.m1, (World.cell?_of_block (a := ⟨S, o + 2, none⟩) (setRow_other W B S cs h2)).trans h.m2, (World.cell?_of_block (a := ⟨S, o + 3, none⟩) (setRow_other W B S cs h2)).trans h.m3, (World.cell?_of_block (a := ⟨S, o + 4, none⟩) (setRow_other W B S cs h2)).trans h.m4, (World.cell?_of_block (a := ⟨bx, 3, none⟩) (setRow_other W B bx cs h3)).trans h.x3⟩
theorem rsizeG {w : World} {g N bc nk : Nat} {an at_ ak : Option Addr} {ck : Nat} {W : World} (hbc : bc ≤ 64) (h3 : nk ≤ 3) (h : SG w g (GB bc nk an at_ ak ck) N ak (blankK nk) W) {x x0 x1 : Option Addr} {c c0 c1 : Nat} {p : PosS} (hf : PosFit p) (hP : PosIn W.heap.size W x x0 x1 p) :
    Calls Try.prog 15 #[.agg #[.int .i64 (bc : Int), .slice an 1 1, .slice at_ 1 1, .slice ak nk ck, .int .i64 2, .bool false, .slice none 0 0, .int .i64 3, .int .i64 2], PosV x x0 x1 c c0 c1 p] W fun e w' => e = .returned (.tuple #[.int .i64 (((sizeV bc 2 (blankK nk) p).1 : Nat) : Int), .int .i64 (((sizeV bc 2 (blankK nk) p).2 : Nat) : Int)]) ∧ Below W.heap.size W w' := by
  have h1 := rsize_any bc 2 (blankK nk) (.slice an 1 1) (.slice at_ 1 1) (.bool false) (.slice none 0 0) (.int .i64 3) (.int .i64 2) p ak x x0 x1 ck c c0 c1 W.heap.size W hbc (by omega) (by rw [blankK_len]; omega) hf (Nat.le_refl _) hP h.kp
  rw [blankK_len] at h1
  exact h1
theorem rmatG {w : World} {g N bc nk : Nat} {an at_ ak : Option Addr} {ck : Nat} {W : World} (hbc : bc ≤ 64) (h3 : nk ≤ 3) (h : SG w g (GB bc nk an at_ ak ck) N ak (blankK nk) W) {x x0 x1 : Option Addr} {c c0 c1 : Nat} {p : PosS} (hf : PosFit p) (hP : PosIn W.heap.size W x x0 x1 p) :
    Calls Try.prog 17 #[.agg #[.int .i64 (bc : Int), .slice an 1 1, .slice at_ 1 1, .slice ak nk ck, .int .i64 2, .bool false, .slice none 0 0, .int .i64 3, .int .i64 2], PosV x x0 x1 c c0 c1 p] W fun e w' => e = .returned (.bool (matB bc 2 (blankK nk) p)) ∧ Below W.heap.size W w' := by
  have h1 := rmat_any bc 2 (blankK nk) (.slice an 1 1) (.slice at_ 1 1) (.bool false) (.slice none 0 0) (.int .i64 3) (.int .i64 2) p ak x x0 x1 ck c c0 c1 W.heap.size W hbc (by omega) (by rw [blankK_len]; omega) hf (Nat.le_refl _) hP h.kp
  rw [blankK_len] at h1
  exact h1
theorem ratG {w : World} {g N bc nk : Nat} {an at_ ak : Option Addr} {ck : Nat} {W : World} (hbc : bc ≤ 64) (hb1 : 1 ≤ bc) (hk1 : 1 ≤ nk) (h3 : nk ≤ 3) (h : SG w g (GB bc nk an at_ ak ck) N ak (blankK nk) W) {x x0 x1 : Option Addr} {c c0 c1 : Nat} {p : PosS} (hf : PosFit p) (hP : PosIn W.heap.size W x x0 x1 p) (i : Int) :
    Calls Try.prog 19 #[.agg #[.int .i64 (bc : Int), .slice an 1 1, .slice at_ 1 1, .slice ak nk ck, .int .i64 2, .bool false, .slice none 0 0, .int .i64 3, .int .i64 2], PosV x x0 x1 c c0 c1 p, .int .i64 i] W fun e w' => ∃ a a0 a1 d d0 d1, e = .returned (.tuple #[PosV a a0 a1 d d0 d1 (atV bc 2 (blankK nk) p i).1, .int .i64 (((atV bc 2 (blankK nk) p i).2 : Nat) : Int)]) ∧ POwn W.heap.size w' a a0 a1 d d0 d1 (atV bc 2 (blankK nk) p i).1 ∧ Below W.heap.size W w' := by
  have h1 := rat_own bc 2 (blankK nk) (.slice an 1 1) (.slice at_ 1 1) (.bool false) (.slice none 0 0) (.int .i64 3) (.int .i64 2) p i ak x x0 x1 ck c c0 c1 W.heap.size W hbc hb1 (by omega) (by rw [blankK_len]; omega) (by rw [blankK_len]; omega) hf (Nat.le_refl _) hP h.kp
  rw [blankK_len] at h1
  exact h1
theorem patG {w : World} {g N bc nk : Nat} {an at_ ak : Option Addr} {ck : Nat} {W : World} (hbc : bc ≤ 64) (hk1 : 1 ≤ nk) (h3 : nk ≤ 3) (h : SG w g (GB bc nk an at_ ak ck) N ak (blankK nk) W) {x x0 x1 : Option Addr} {c c0 c1 : Nat} {p : PosS} (hf : PosFit p) (hP : PosIn W.heap.size W x x0 x1 p) (i : Int) :
    Calls Try.prog 18 #[.agg #[.int .i64 (bc : Int), .slice an 1 1, .slice at_ 1 1, .slice ak nk ck, .int .i64 2, .bool false, .slice none 0 0, .int .i64 3, .int .i64 2], PosV x x0 x1 c c0 c1 p, .int .i64 i] W fun e w' => ∃ a a0 a1 d d0 d1, e = .returned (.tuple #[PosV a a0 a1 d d0 d1 (atV bc 2 (blankK nk) p i).1, .int .i64 (((atV bc 2 (blankK nk) p i).2 : Nat) : Int)]) ∧ POwn W.heap.size w' a a0 a1 d d0 d1 (atV bc 2 (blankK nk) p i).1 ∧ Below W.heap.size W w' := by
  have h1 := at_own bc 2 (blankK nk) (.slice an 1 1) (.slice at_ 1 1) (.bool false) (.slice none 0 0) (.int .i64 3) (.int .i64 2) p i ak x x0 x1 ck c c0 c1 W.heap.size W hbc (by omega) (by rw [blankK_len]; omega) (by rw [blankK_len]; omega) hf (Nat.le_refl _) hP h.kp
  rw [blankK_len] at h1
  exact h1
theorem rrankG {w : World} {g N bc nk : Nat} {an at_ ak : Option Addr} {ck : Nat} {W : World} (hbc : bc ≤ 64) (hb1 : 1 ≤ bc) (hk1 : 1 ≤ nk) (h3 : nk ≤ 3) (h : SG w g (GB bc nk an at_ ak ck) N ak (blankK nk) W) {x x0 x1 : Option Addr} {c c0 c1 : Nat} {p : PosS} (hf : PosFit p) (hP : PosIn W.heap.size W x x0 x1 p) :
    Calls Try.prog 22 #[.agg #[.int .i64 (bc : Int), .slice an 1 1, .slice at_ 1 1, .slice ak nk ck, .int .i64 2, .bool false, .slice none 0 0, .int .i64 3, .int .i64 2], PosV x x0 x1 c c0 c1 p] W fun e w' => e = .returned (.tuple #[.int .i64 (((rankV bc 2 (blankK nk) p).1 : Nat) : Int), .int .i64 (((rankV bc 2 (blankK nk) p).2 : Nat) : Int)]) ∧ Below W.heap.size W w' := by
  have h1 := rrank_any bc 2 (blankK nk) (.slice an 1 1) (.slice at_ 1 1) (.bool false) (.slice none 0 0) (.int .i64 3) (.int .i64 2) p ak x x0 x1 ck c c0 c1 W.heap.size W hbc hb1 (by omega) (by rw [blankK_len]; omega) (by rw [blankK_len]; omega) hf (Nat.le_refl _) hP h.kp
  rw [blankK_len] at h1
  exact h1
set_option maxRecDepth 100000 in
set_option maxHeartbeats 8000000 in
theorem match_any (z0 z1 : Nat) (al : Option Addr) (cl : Nat) (l : List Nat) (qx : PosS) (xa xa0 xa1 : Option Addr) (xc xc0 xc1 : Nat) (w : World) (h0 : z0 ≤ 255) (h1 : z1 ≤ 255) (hU : U8s w.heap.size w al l) (hX0 : PosIn w.heap.size w xa xa0 xa1 qx) (hXF : PosFit qx) :
    Calls Try.prog 3 #[.agg #[.int .u8 (z0 : Int), .int .u8 (z1 : Int)], .slice al l.length cl, PosV xa xa0 xa1 xc xc0 xc1 qx] w fun e w' => e = .returned (.bool true) ∧ Below w.heap.size w w' := by
  obtain ⟨bc, hbc⟩ : ∃ bc, bc = 1 + z0 % 64 := ⟨_, rfl⟩
  obtain ⟨nk, hnk⟩ : ∃ nk, nk = 1 + z1 % 3 := ⟨_, rfl⟩
  have hb64 : bc ≤ 64 := by omega
  have hb1 : 1 ≤ bc := by omega
  have hn1 : 1 ≤ nk := by omega
  have hn3 : nk ≤ 3 := by omega
  have HBC := Lib.hid hbc
  have HNK := Lib.hid hnk
  clear hbc hnk
  have HSA := Lib.hid (fun W => sanity_any W)
  unfold PosV
  obtain ⟨hbx, hX, hR, hS⟩ := two_boxes w #[.int .u8 (z0 : Int), .int .u8 (z1 : Int)] #[.slice xa qx.cells.length xc, .slice xa0 qx.h0.length xc0, .slice xa1 qx.h1.length xc1, .int .i64 qx.rights, .int .i64 qx.side] 22 27
  have hUx := hU.up (Nat.le_refl _) hbx
  have hXx := hX0.up (Nat.le_refl _) hbx
  have hbk := Lib.hid hbx
  go_enter Try.func3, Try.ntmps3
  go_upto_region 1 with (fail)
  generalize (w.alloc (.cells #[.int .u8 (z0 : Int), .int .u8 (z1 : Int)] 22)).alloc (.cells #[.slice xa qx.cells.length xc, .slice xa0 qx.h0.length xc0, .slice xa1 qx.h1.length xc1, .int .i64 qx.rights, .int .i64 qx.side] 27) = w0 at *
  obtain ⟨xx, hxx⟩ : ∃ xx, xx = w.heap.size := ⟨_, rfl⟩
  have HXX := Lib.hid hxx
  simp only [← hxx] at hX hR hS hUx hXx ⊢
  clear hxx
  have hN0 : xx ≤ w0.heap.size := by omega
  go_upto_region 2 with (go_at_call 9; refine (HSA.out _).mono ?_; rintro e w1 ⟨rfl, hbs⟩)
  have hX1 := hp_up hX hbs
  have hR1 := hp_up hR hbs
  have hU1 := hUx.up hN0 hbs
  have hXx1 := hXx.up hN0 hbs
  have hN1 : xx ≤ w1.heap.size := by have := hbs.size; omega
  have hbw1 := below_step hbk.out hbs
  have x0 : w1.cell? ⟨xx, 0, none⟩ = some (.int .u8 (z0 : Int)) := bx_cell hX1 0 rfl
  have x1 : w1.cell? ⟨xx, 1, none⟩ = some (.int .u8 (z1 : Int)) := bx_cell hX1 1 rfl
  have lx := bx_lt hX1
  have HBD := Lib.hid (board_any z0 z1 bc nk al cl xx l w1 h0 h1 HBC.out HNK.out hU1 hN1)
  clear hX hR hbx hbk hUx hXx hbs hU1 hU HSA hX1
  go_upto_region 3 with (go_at_call 10; refine HBD.out.mono ?_; rintro e w2 ⟨an, at_, ak, ck, g, g0, g1, q, n, rfl, hn, hk, hPO, hap, hql, hqm, hb2⟩)
  obtain ⟨hb3, hG, hQ, hS3⟩ := two_boxes w2 #[.int .i64 (bc : Int), .slice an 1 1, .slice at_ 1 1, .slice ak nk ck, .int .i64 2, .bool false, .slice none 0 0, .int .i64 3, .int .i64 2] #[.slice (some ⟨g, 0, none⟩) bc bc, .slice (some ⟨g0, 0, none⟩) nk nk, .slice (some ⟨g1, 0, none⟩) nk nk, .int .i64 1, .int .i64 0] 35 27
  obtain ⟨y, hy⟩ : ∃ y, y = w2.heap.size := ⟨_, rfl⟩
  have hPO3 := hPO.upx hb3
  have hk3 := hk.below (hb3.mono hn)
  have hXP := hp_up hR1 (below_step hb2 hb3)
  have hXx3 := hXx1.up hN1 (below_step hb2 hb3)
  have hbw3 := below_step (below_step hbw1 hb2) hb3
  have hsz := hb2.size
  generalize (w2.alloc (.cells #[.int .i64 (bc : Int), .slice an 1 1, .slice at_ 1 1, .slice ak nk ck, .int .i64 2, .bool false, .slice none 0 0, .int .i64 3, .int .i64 2] 35)).alloc (.cells #[.slice (some ⟨g, 0, none⟩) bc bc, .slice (some ⟨g0, 0, none⟩) nk nk, .slice (some ⟨g1, 0, none⟩) nk nk, .int .i64 1, .int .i64 0] 27) = w3 at *
  simp only [← hy] at hG hQ hn hsz hS3 ⊢
  have hn9 : n ≤ w3.heap.size := by omega
  have hN3 : xx ≤ w3.heap.size := by omega
  have hSG : SG w y (GB bc nk an at_ ak ck) n ak (blankK nk) w3 := ⟨hbw3, hG, hn9, hk3⟩
  clear HBD hk hPO hb2 hb3 hbw1 hbw3 hk3 x0 x1 lx hy hS3 hN0 hG hR1 hXx1 hN1
  obtain ⟨m, hm⟩ : ∃ m, m = 2 * nk + 1 := ⟨_, rfl⟩
  rw [← hm] at hqm
  have HMM := Lib.hid hm
  have hm13 : m ≤ 7 := by omega
  clear hm
  have hP3 : POwn w1.heap.size w3 (some ⟨g, 0, none⟩) (some ⟨g0, 0, none⟩) (some ⟨g1, 0, none⟩) bc nk nk (fldP nk q (l.length % 9)) := hPO3
  clear hPO3
  have hgx := hSG.hg
  have HOF := Lib.hid (of_any (.int .i64 (bc : Int)) (.slice an 1 1) (.slice at_ 1 1) (.int .i64 2) (.bool false) (.slice none 0 0) (.int .i64 3) (.int .i64 2) (fldP nk q (l.length % 9)) q ak (some ⟨g, 0, none⟩) (some ⟨g0, 0, none⟩) (some ⟨g1, 0, none⟩) nk ck bc nk nk w3.heap.size m w3 (by omega) HMM.out rfl (by omega) hqm (by unfold fldP; simp; omega) (by unfold fldP; simp; omega) (by unfold fldP; simp; omega) (by unfold fldP; simp; omega) (Nat.le_refl _) hP3.pin)
  rw [fld_val hql] at HOF
  go_upto_region 4 with (first | (refine wpList_load_row rfl 35 (.tmp 8) rfl y rfl 35 _ (0, 0) _ hgx Try.underlying35 rfl info_game ?_) | (refine wpList_load_row rfl 27 (.tmp 9) rfl (y + 1) rfl 27 _ (0, 0) _ hQ Try.underlying27 rfl info_pos ?_) | (go_at_call 11; refine HOF.out.mono ?_; rintro e w4 ⟨ma, ma0, ma1, md, md0, md1, rfl, hM4, hb4⟩; rw [mat_val]))
  have hb5 : Below w4.heap.size w4 (w4.alloc (.cells #[.slice ma m md, .slice ma0 nk md0, .slice ma1 nk md1, .int .i64 1, .int .i64 0] 39)) := below_alloc (Below.refl _ _) _
  have hK5 := World.alloc_heap_new w4 (.cells #[.slice ma m md, .slice ma0 nk md0, .slice ma1 nk md1, .int .i64 1, .int .i64 0] 39)
  have hb45 := below_step hb4 hb5
  have hG5 := hSG.up hb45
  have hP5 := hP3.upx hb45
  have hM5 := hM4.upx hb5
  have hQ5 := hp_up hQ hb45
  have hXP5 := hp_up hXP hb45
  have hXx5 := hXx3.up hN3 hb45
  have hN5 : xx ≤ w4.heap.size := by have := hb4.size; omega
  obtain ⟨mb, hmb⟩ : ∃ mb, mb = w4.heap.size := ⟨_, rfl⟩
  generalize w4.alloc (.cells #[.slice ma m md, .slice ma0 nk md0, .slice ma1 nk md1, .int .i64 1, .int .i64 0] 39) = w5 at *
  simp only [← hmb] at hK5 hN5 ⊢
  have hN6 : xx ≤ w5.heap.size := by have := bx_lt hK5; omega
  clear HOF hSG hP3 hb4 hM4 hb5 hb45 hQ hXP hXx3 hgx hmb hN5 hN3
  have HOR := Lib.hid (fun W (hW : POwn w1.heap.size W (some ⟨g, 0, none⟩) (some ⟨g0, 0, none⟩) (some ⟨g1, 0, none⟩) bc nk nk (fldP nk q (l.length % 9))) => rof_any (.int .i64 (bc : Int)) (.slice an 1 1) (.slice at_ 1 1) (.int .i64 2) (.bool false) (.slice none 0 0) (.int .i64 3) (.int .i64 2) (fldP nk q (l.length % 9)) q ak (some ⟨g, 0, none⟩) (some ⟨g0, 0, none⟩) (some ⟨g1, 0, none⟩) nk ck bc nk nk W.heap.size m W (by omega) HMM.out rfl (by omega) (by omega) hqm (by unfold fldP; simp; omega) (by unfold fldP; simp; omega) (by unfold fldP; simp; omega) (by unfold fldP; simp; omega) (Nat.le_refl _) hW.pin)
  rw [fld_val hql] at HOR
  go_cut [46] (fun v wx => v = .bool false ∧ Below w5.heap.size w5 wx)
  case first =>
    have hd : Below w5.heap.size w5 w5.drew := (Below.refl _ _).drew
    have hS5 : (RS y mb [.int .i64 (bc : Int), .slice an 1 1, .slice at_ 1 1, .slice ak nk ck, .int .i64 2, .bool false, .slice none 0 0, .int .i64 3, .int .i64 2] [.slice (some ⟨g, 0, none⟩) bc bc, .slice (some ⟨g0, 0, none⟩) nk nk, .slice (some ⟨g1, 0, none⟩) nk nk, .int .i64 1, .int .i64 0] [.slice ma m md, .slice ma0 nk md0, .slice ma1 nk md1, .int .i64 1, .int .i64 0]) w5 := ⟨hG5.hg, hQ5, hK5⟩
    have hPd := hP5.upx hd
    have hMd := hM5.upx hd
    refine wp_region_held_drew (S := (RS y mb [.int .i64 (bc : Int), .slice an 1 1, .slice at_ 1 1, .slice ak nk ck, .int .i64 2, .bool false, .slice none 0 0, .int .i64 3, .int .i64 2] [.slice (some ⟨g, 0, none⟩) bc bc, .slice (some ⟨g0, 0, none⟩) nk nk, .slice (some ⟨g1, 0, none⟩) nk nk, .int .i64 1, .int .i64 0] [.slice ma m md, .slice ma0 nk md0, .slice ma1 nk md1, .int .i64 1, .int .i64 0])) (by kernel_rfl) (hS5.up hd) (fun hSD => ?_)
    generalize w5.drew = wD at *
    clear hG5 hP5 hM5 hQ5 hK5 hS5 hXP5 hXx5
    refine TX 0 (YL rfl 39 _ rfl mb 0 rfl _ [.slice ma m md, .slice ma0 nk md0, .slice ma1 nk md1, .int .i64 1, .int .i64 0] _ _ (fun _ h => h.hm) rfl Try.underlying39 rfl info_mat) ?_
    (try simp only [pS])
    refine TX 1 (YL rfl 35 _ rfl y 0 rfl _ [.int .i64 (bc : Int), .slice an 1 1, .slice at_ 1 1, .slice ak nk ck, .int .i64 2, .bool false, .slice none 0 0, .int .i64 3, .int .i64 2] _ _ (fun _ h => h.hg) rfl Try.underlying35 rfl info_game) ?_
    (try simp only [pS])
    refine TX 2 (YL rfl 27 _ rfl (y + 1) 0 rfl _ [.slice (some ⟨g, 0, none⟩) bc bc, .slice (some ⟨g0, 0, none⟩) nk nk, .slice (some ⟨g1, 0, none⟩) nk nk, .int .i64 1, .int .i64 0] _ _ (fun _ h => h.hq) rfl Try.underlying27 rfl info_pos) ?_
    (try simp only [pS])
    refine wpAnyH_ready (rs := [3]) (by kernel_rfl) (by simp) ?_
    refine AC (i := 3) (fun K hK => ?_) AllReadyH.nil
    refine step_call_h rfl 13 _ _ #[.agg #[.int .i64 (bc : Int), .slice an 1 1, .slice at_ 1 1, .slice ak nk ck, .int .i64 2, .bool false, .slice none 0 0, .int .i64 3, .int .i64 2], .agg #[.slice (some ⟨g, 0, none⟩) bc bc, .slice (some ⟨g0, 0, none⟩) nk nk, .slice (some ⟨g1, 0, none⟩) nk nk, .int .i64 1, .int .i64 0]] rfl rfl (enters_of Try.func13 (by kernel_rfl) rfl) ((HOR.out _ hPd).mono ?_)
    rintro e w6 ⟨b, b0, b1, e0, e1, e2, rfl, hM6, hb6⟩
    have hS6 := hSD.up hb6
    rw [mat_val]
    refine ⟨_, rfl, hK.out _ _ hS6 (fun _ => ?_)⟩
    clear hK K
    (try simp only [pS])
    have HSM := Lib.hid (same_any (matS m q (fldP nk q (l.length % 9))) (matS m q (fldP nk q (l.length % 9))) ma ma0 ma1 b b0 b1 md md0 md1 e0 e1 e2 w6.heap.size w6 (by have := mat_fit (nk := nk) (h := l.length % 9) (q := q) hn3; rw [HMM.out]; exact this) (Nat.le_refl _) (hMd.upx hb6).pin hM6.pin)
    rw [mat_val, mat_val, eqB_self] at HSM
    refine wpAnyH_ready (rs := [4]) (by kernel_rfl) (by simp) ?_
    refine AC (i := 4) (fun K hK => ?_) AllReadyH.nil
    refine step_call_h rfl 12 _ _ #[.agg #[.slice ma m md, .slice ma0 nk md0, .slice ma1 nk md1, .int .i64 1, .int .i64 0], .agg #[.slice b m e0, .slice b0 nk e1, .slice b1 nk e2, .int .i64 1, .int .i64 0]] rfl rfl (enters_of Try.func12 (by kernel_rfl) rfl) (HSM.out.mono ?_)
    rintro e w7 ⟨rfl, hb7⟩
    have hS7 := hS6.up hb7
    refine ⟨_, rfl, hK.out _ _ hS7 (fun _ => ?_)⟩
    clear hK K HSM
    (try simp only [pS])
    have HF := Lib.hid ((hd.trans (hb6.mono hd.size)).trans (hb7.mono (Nat.le_trans hd.size hb6.size)))
    refine TC 5 ?_
    (try simp only [pS])
    refine wpAnyH_done (by kernel_rfl) ?_ _
    go_wp2_with fail
    go_meet
    case rel => exact ⟨rfl, HF.out⟩
  case rest =>
    obtain ⟨rfl, hb8⟩ := hcut
    generalize wc = w8 at *
    have hG8 := hG5.up hb8
    have hP8 := hP5.upx hb8
    have hM8 := hM5.upx hb8
    have hQ := hp_up hQ5 hb8
    have hK := hp_up hK5 hb8
    have hXP := hp_up hXP5 hb8
    have hXx8 := hXx5.up hN6 hb8
    have hN8 : xx ≤ w8.heap.size := by have := hb8.size; omega
    clear hG5 hP5 hM5 hQ5 hK5 hXP5 hXx5 hN6 hb8 HOR
    have hfm : PosFit (matS m q (fldP nk q (l.length % 9))) := by rw [HMM.out]; exact mat_fit hn3
    have hfp : PosFit (fldP nk q (l.length % 9)) := fld_fit hb64 hn3 hql
    go_upto_region 6 with (fail)
    have a0 := bx_cell hXP 0 rfl
    have a1 := bx_cell hXP 1 rfl
    have a2 := bx_cell hXP 2 rfl
    have a3 := bx_cell hXP 3 rfl
    have a4 := bx_cell hXP 4 rfl
    have la := bx_lt hXP
    have lp := bx_lt hQ
    go_upto_region 7 with (fail)
    have hb9 : Below w8.heap.size w8 (w8.alloc (.cells #[.slice xa qx.cells.length xc, .slice xa0 qx.h0.length xc0, .slice xa1 qx.h1.length xc1, .int .i64 qx.rights, .int .i64 qx.side] 39)) := below_alloc (Below.refl _ _) _
    have hO9 := World.alloc_heap_new w8 (.cells #[.slice xa qx.cells.length xc, .slice xa0 qx.h0.length xc0, .slice xa1 qx.h1.length xc1, .int .i64 qx.rights, .int .i64 qx.side] 39)
    obtain ⟨o1, ho1⟩ : ∃ o1, o1 = w8.heap.size := ⟨_, rfl⟩
    generalize w8.alloc (.cells #[.slice xa qx.cells.length xc, .slice xa0 qx.h0.length xc0, .slice xa1 qx.h1.length xc1, .int .i64 qx.rights, .int .i64 qx.side] 39) = w9 at *
    simp only [← ho1] at hO9 ⊢
    clear a0 a1 a2 a3 a4 la lp ho1
    have hX9 := hp_up hXP hb9
    have hQ9 := hp_up hQ hb9
    have a0 := bx_cell hX9 0 rfl
    have p1 := bx_cell hQ9 1 rfl
    have p2 := bx_cell hQ9 2 rfl
    have p3 := bx_cell hQ9 3 rfl
    have p4 := bx_cell hQ9 4 rfl
    have la := bx_lt hX9
    have lp := bx_lt hQ9
    go_upto_region 8 with (fail)
    have hb10 : Below w9.heap.size w9 (w9.alloc (.cells #[.slice xa qx.cells.length xc, .slice (some ⟨g0, 0, none⟩) nk nk, .slice (some ⟨g1, 0, none⟩) nk nk, .int .i64 1, .int .i64 0] 39)) := below_alloc (Below.refl _ _) _
    have hO10 := World.alloc_heap_new w9 (.cells #[.slice xa qx.cells.length xc, .slice (some ⟨g0, 0, none⟩) nk nk, .slice (some ⟨g1, 0, none⟩) nk nk, .int .i64 1, .int .i64 0] 39)
    obtain ⟨o2, ho2⟩ : ∃ o2, o2 = w9.heap.size := ⟨_, rfl⟩
    generalize w9.alloc (.cells #[.slice xa qx.cells.length xc, .slice (some ⟨g0, 0, none⟩) nk nk, .slice (some ⟨g1, 0, none⟩) nk nk, .int .i64 1, .int .i64 0] 39) = w10 at *
    simp only [← ho2] at hO10 ⊢
    clear a0 p1 p2 p3 p4 la lp ho2 hX9 hQ9
    have hB10 := below_step hb9 hb10
    have hO91 := hp_up hO9 hb10
    have hK10 := hp_up hK hB10
    go_upto_region 9 with (first | (refine wpList_load_row rfl 39 (.tmp 10) rfl mb rfl 39 _ (0, 0) _ hK10 Try.underlying39 rfl info_mat ?_) | (refine wpList_load_row rfl 39 (.tmp 11) rfl o1 rfl 39 _ (0, 0) _ hO91 Try.underlying39 rfl info_mat ?_) | (refine wpList_load_row rfl 39 (.tmp 12) rfl o2 rfl 39 _ (0, 0) _ hO10 Try.underlying39 rfl info_mat ?_))
    have hb11 : Below w10.heap.size w10 (w10.alloc (.cells #[.slice ma m md, .slice ma0 nk md0, .slice ma1 nk md1, .int .i64 1, .int .i64 0, .slice xa qx.cells.length xc, .slice xa0 qx.h0.length xc0, .slice xa1 qx.h1.length xc1, .int .i64 qx.rights, .int .i64 qx.side, .slice xa qx.cells.length xc, .slice (some ⟨g0, 0, none⟩) nk nk, .slice (some ⟨g1, 0, none⟩) nk nk, .int .i64 1, .int .i64 0] 39)) := below_alloc (Below.refl _ _) _
    have hS11 := World.alloc_heap_new w10 (.cells #[.slice ma m md, .slice ma0 nk md0, .slice ma1 nk md1, .int .i64 1, .int .i64 0, .slice xa qx.cells.length xc, .slice xa0 qx.h0.length xc0, .slice xa1 qx.h1.length xc1, .int .i64 qx.rights, .int .i64 qx.side, .slice xa qx.cells.length xc, .slice (some ⟨g0, 0, none⟩) nk nk, .slice (some ⟨g1, 0, none⟩) nk nk, .int .i64 1, .int .i64 0] 39)
    obtain ⟨S, hSS⟩ : ∃ S, S = w10.heap.size := ⟨_, rfl⟩
    generalize w10.alloc (.cells #[.slice ma m md, .slice ma0 nk md0, .slice ma1 nk md1, .int .i64 1, .int .i64 0, .slice xa qx.cells.length xc, .slice xa0 qx.h0.length xc0, .slice xa1 qx.h1.length xc1, .int .i64 qx.rights, .int .i64 qx.side, .slice xa qx.cells.length xc, .slice (some ⟨g0, 0, none⟩) nk nk, .slice (some ⟨g1, 0, none⟩) nk nk, .int .i64 1, .int .i64 0] 39) = w11 at *
    simp only [← hSS] at hS11 ⊢
    have hB11 := below_step hB10 hb11
    have hG11 := hG8.up hB11
    have hP11 := hP8.upx hB11
    have hM11 := hM8.upx hB11
    have hXx11 := hXx8.up hN8 hB11
    have hN11 : xx ≤ w11.heap.size := by have := hB11.size; omega
    have hQ11 := hp_up hQ hB11
    have hX11 := hp_up hXP hB11
    have hZL : ([(⟨(matS m q (fldP nk q (l.length % 9))), ma, ma0, ma1, md, md0, md1⟩ : PosA), ⟨qx, xa, xa0, xa1, xc, xc0, xc1⟩, ⟨{ fldP nk q (l.length % 9) with cells := qx.cells }, xa, some ⟨g0, 0, none⟩, some ⟨g1, 0, none⟩, xc, nk, nk⟩]).flatMap PosA.enc = [.slice ma m md, .slice ma0 nk md0, .slice ma1 nk md1, .int .i64 1, .int .i64 0, .slice xa qx.cells.length xc, .slice xa0 qx.h0.length xc0, .slice xa1 qx.h1.length xc1, .int .i64 qx.rights, .int .i64 qx.side, .slice xa qx.cells.length xc, .slice (some ⟨g0, 0, none⟩) nk nk, .slice (some ⟨g1, 0, none⟩) nk nk, .int .i64 1, .int .i64 0] := by
      show PosA.enc _ ++ (PosA.enc _ ++ (PosA.enc _ ++ [])) = _
      rw [mat_enc, mix_enc]
      rfl
    rw [show #[.slice ma m md, .slice ma0 nk md0, .slice ma1 nk md1, .int .i64 1, .int .i64 0, .slice xa qx.cells.length xc, .slice xa0 qx.h0.length xc0, .slice xa1 qx.h1.length xc1, .int .i64 qx.rights, .int .i64 qx.side, .slice xa qx.cells.length xc, .slice (some ⟨g0, 0, none⟩) nk nk, .slice (some ⟨g1, 0, none⟩) nk nk, .int .i64 1, .int .i64 0] = (([(⟨(matS m q (fldP nk q (l.length % 9))), ma, ma0, ma1, md, md0, md1⟩ : PosA), ⟨qx, xa, xa0, xa1, xc, xc0, xc1⟩, ⟨{ fldP nk q (l.length % 9) with cells := qx.cells }, xa, some ⟨g0, 0, none⟩, some ⟨g1, 0, none⟩, xc, nk, nk⟩]).flatMap PosA.enc).toArray by rw [hZL]] at hS11
    clear hSS hb9 hO9 hb10 hO10 hB10 hO91 hK10 hb11 hB11 hG8 hP8 hM8 hXx8 hQ hK hXP hZL
    have HZ := Lib.hid (show ∀ W, Below w11.heap.size w11 W → ∀ k, k < 3 → ∃ z : PosA, PosFit z.p ∧ PosIn W.heap.size W z.a z.a0 z.a1 z.p ∧ MC y S (k * 5) (xx + 1) [.int .i64 (bc : Int), .slice an 1 1, .slice at_ 1 1, .slice ak nk ck, .int .i64 2, .bool false, .slice none 0 0, .int .i64 3, .int .i64 2] z qx.rights W from fun W hb k hk => by
      have hg := (hG11.up hb).hg
      have hS := hp_up hS11 hb
      have hx := bx_cell (hp_up hX11 hb) 3 rfl
      have hxi := posin_mono (hXx11.up hN11 hb) (Nat.le_trans hN11 hb.size)
      have hpi := (hP11.upx hb).pin
      rcases (show k = 0 ∨ k = 1 ∨ k = 2 by omega) with rfl | rfl | rfl
      · exact ⟨_, hfm, (hM11.upx hb).pin, mc_of hg hS (k := 0) (by simp) rfl hx⟩
      · exact ⟨_, hXF, hxi, mc_of hg hS (k := 1) (by simp) rfl hx⟩
      · exact ⟨_, ⟨hXF.cells, hfp.h0, hfp.h1⟩, ⟨hxi.cells, hpi.h0, hpi.h1⟩, mc_of hg hS (k := 2) (by simp) rfl hx⟩)
    have HXF := Lib.hid hXF
    have HFP := Lib.hid hfp
    have HXQ := Lib.hid (fun W (hb : Below w11.heap.size w11 W) => posin_mono (hXx11.up hN11 hb) (Nat.le_trans hN11 hb.size))
    have HPQ := Lib.hid (fun W (hb : Below w11.heap.size w11 W) => (hP11.upx hb).pin)
    have HGQ := Lib.hid (fun W (hb : Below w11.heap.size w11 W) => hG11.up hb)
    have HXB := Lib.hid (fun W (hb : Below w11.heap.size w11 W) => hp_up hX11 hb)
    have HQB := Lib.hid (fun W (hb : Below w11.heap.size w11 W) => hp_up hQ11 hb)
    clear hX0 hXF hfm hfp hS11 hG11 hP11 hM11 hXx11 hX11 hQ11
    go_wp2_with fail
    go_loopw [14] (fun ix wr => ∃ k : Nat, k ≤ 3 ∧ ix = .int .i64 (k : Int) ∧ Hid (Below w11.heap.size w11 wr)) (fun ix _ => 3 - (intOf ix).toNat)
    case atStart => exact ⟨0, by omega, rfl, Lib.hid (Below.refl _ _)⟩
    case round =>
      obtain ⟨k, hk, rfl, hbr⟩ := hrel
      by_cases hlt : k < 3
      · have t1 : decide ((k : Int) < 3) = true := by simp; omega
        obtain ⟨z, hzf, hzi, hmc⟩ := HZ.out wr hbr.out k hlt
        have hGr := HGQ.out wr hbr.out
        obtain ⟨sn, se, hsv⟩ : ∃ sn se, sizeV bc 2 (blankK nk) z.p = (sn, se) := ⟨_, _, rfl⟩
        obtain ⟨mv, hmv⟩ : ∃ mv, matB bc 2 (blankK nk) z.p = mv := ⟨_, rfl⟩
        obtain ⟨ap, ae, hav⟩ : ∃ ap ae, atV bc 2 (blankK nk) z.p qx.rights = (ap, ae) := ⟨_, _, rfl⟩
        have HSV := Lib.hid hsv
        have HMV := Lib.hid hmv
        have HAV := Lib.hid hav
        clear hsv hmv hav
        have t2 : (0 : Int) ≤ (k : Int) := by omega
        have t3 : (k : Int) < 3 := by omega
        go_upto_region 12 with (fail)
        go_cut [15, 16] (fun a b wx => a = .int .i64 (sn : Int) ∧ b = .int .i64 (se : Int) ∧ Below wr.heap.size wr wx)
        case first =>
          have hd : Below wr.heap.size wr wr.drew := (Below.refl _ _).drew
          have HZS := Lib.hid (sizeG hb64 hn3 (hGr.up hd) (c := z.c) (c0 := z.c0) (c1 := z.c1) hzf (hzi.up (Nat.le_refl _) hd))
          rw [HSV.out] at HZS
          unfold PosV at HZS
          refine wp_region_held_drew (S := (MC y S (k * 5) (xx + 1) [.int .i64 (bc : Int), .slice an 1 1, .slice at_ 1 1, .slice ak nk ck, .int .i64 2, .bool false, .slice none 0 0, .int .i64 3, .int .i64 2] z qx.rights)) (by kernel_rfl) (hmc.up hd) (fun hSD => ?_)
          generalize wr.drew = wD at *
          refine TX 0 (YL rfl 35 _ rfl y 0 rfl _ [.int .i64 (bc : Int), .slice an 1 1, .slice at_ 1 1, .slice ak nk ck, .int .i64 2, .bool false, .slice none 0 0, .int .i64 3, .int .i64 2] _ _ (fun _ h => h.hg) rfl Try.underlying35 rfl info_game) ?_
          (try simp only [pS])
          refine TC 1 ?_
          (try simp only [pS])
          refine TC 2 ?_
          (try simp only [pS])
          refine TC 3 ?_
          (try simp only [pS])
          refine TC 4 ?_
          (try simp only [pS])
          refine wpAnyH_ready (rs := [5]) (by kernel_rfl) (by simp) ?_
          refine AC (i := 5) (fun K hK => ?_) AllReadyH.nil
          refine step_call_h rfl 14 _ _ #[.agg #[.int .i64 (bc : Int), .slice an 1 1, .slice at_ 1 1, .slice ak nk ck, .int .i64 2, .bool false, .slice none 0 0, .int .i64 3, .int .i64 2], .agg #[.slice z.a z.p.cells.length z.c, .slice z.a0 z.p.h0.length z.c0, .slice z.a1 z.p.h1.length z.c1, .int .i64 z.p.rights, .int .i64 z.p.side]] rfl rfl (enters_of Try.func14 (by kernel_rfl) rfl) (HZS.out.mono ?_)
          rintro e wE ⟨rfl, hbE⟩
          have hSE := hSD.up hbE
          refine ⟨_, rfl, hK.out _ _ hSE (fun _ => ?_)⟩
          clear hK K HZS
          (try simp only [pS])
          have HF := Lib.hid (below_step hd hbE)
          refine TC 6 ?_
          (try simp only [pS])
          refine TC 7 ?_
          (try simp only [pS])
          refine TC 8 ?_
          (try simp only [pS])
          refine TC 9 ?_
          (try simp only [pS])
          refine TC 10 ?_
          (try simp only [pS])
          refine wpAnyH_done (by kernel_rfl) ?_ _
          go_wp2_with fail
          go_meet
          case rel => exact ⟨rfl, rfl, HF.out⟩
        case rest =>
        obtain ⟨rfl, rfl, hbN⟩ := hcut
        generalize wc = wA at *
        replace hmc := hmc.up hbN
        replace hzi := posin_mono (hzi.up (Nat.le_refl _) hbN) hbN.size
        replace hGr := hGr.up hbN
        replace hbr := Lib.hid (below_step hbr.out hbN)
        go_upto_region 13 with (fail)
        go_cut [17, 18] (fun a b wx => a = .int .i64 (sn : Int) ∧ b = .int .i64 (se : Int) ∧ Below wA.heap.size wA wx)
        case first =>
          have hd : Below wA.heap.size wA wA.drew := (Below.refl _ _).drew
          have HZS := Lib.hid (rsizeG hb64 hn3 (hGr.up hd) (c := z.c) (c0 := z.c0) (c1 := z.c1) hzf (hzi.up (Nat.le_refl _) hd))
          rw [HSV.out] at HZS
          unfold PosV at HZS
          refine wp_region_held_drew (S := (MC y S (k * 5) (xx + 1) [.int .i64 (bc : Int), .slice an 1 1, .slice at_ 1 1, .slice ak nk ck, .int .i64 2, .bool false, .slice none 0 0, .int .i64 3, .int .i64 2] z qx.rights)) (by kernel_rfl) (hmc.up hd) (fun hSD => ?_)
          generalize wA.drew = wD at *
          refine TX 0 (YL rfl 35 _ rfl y 0 rfl _ [.int .i64 (bc : Int), .slice an 1 1, .slice at_ 1 1, .slice ak nk ck, .int .i64 2, .bool false, .slice none 0 0, .int .i64 3, .int .i64 2] _ _ (fun _ h => h.hg) rfl Try.underlying35 rfl info_game) ?_
          (try simp only [pS])
          refine TC 1 ?_
          (try simp only [pS])
          refine TC 2 ?_
          (try simp only [pS])
          refine TC 3 ?_
          (try simp only [pS])
          refine TC 4 ?_
          (try simp only [pS])
          refine wpAnyH_ready (rs := [5]) (by kernel_rfl) (by simp) ?_
          refine AC (i := 5) (fun K hK => ?_) AllReadyH.nil
          refine step_call_h rfl 15 _ _ #[.agg #[.int .i64 (bc : Int), .slice an 1 1, .slice at_ 1 1, .slice ak nk ck, .int .i64 2, .bool false, .slice none 0 0, .int .i64 3, .int .i64 2], .agg #[.slice z.a z.p.cells.length z.c, .slice z.a0 z.p.h0.length z.c0, .slice z.a1 z.p.h1.length z.c1, .int .i64 z.p.rights, .int .i64 z.p.side]] rfl rfl (enters_of Try.func15 (by kernel_rfl) rfl) (HZS.out.mono ?_)
          rintro e wE ⟨rfl, hbE⟩
          have hSE := hSD.up hbE
          refine ⟨_, rfl, hK.out _ _ hSE (fun _ => ?_)⟩
          clear hK K HZS
          (try simp only [pS])
          have HF := Lib.hid (below_step hd hbE)
          refine TC 6 ?_
          (try simp only [pS])
          refine TC 7 ?_
          (try simp only [pS])
          refine TC 8 ?_
          (try simp only [pS])
          refine TC 9 ?_
          (try simp only [pS])
          refine TC 10 ?_
          (try simp only [pS])
          refine wpAnyH_done (by kernel_rfl) ?_ _
          go_wp2_with fail
          go_meet
          case rel => exact ⟨rfl, rfl, HF.out⟩
        case rest =>
        obtain ⟨rfl, rfl, hbN⟩ := hcut
                
        generalize wc = wB at *
        replace hmc := hmc.up hbN
        replace hzi := posin_mono (hzi.up (Nat.le_refl _) hbN) hbN.size
        replace hGr := hGr.up hbN
        replace hbr := Lib.hid (below_step hbr.out hbN)
        go_upto_region 14 with (fail)
        go_cut [113] (fun v wx => v = .bool false ∧ Below wB.heap.size wB wx)
        case first =>
          have hd : Below wB.heap.size wB wB.drew := (Below.refl _ _).drew
          have HZS := Lib.hid (matG hb64 hn3 (hGr.up hd) (c := z.c) (c0 := z.c0) (c1 := z.c1) hzf (hzi.up (Nat.le_refl _) hd))
          have HZR := Lib.hid (fun W (hb : Below wB.drew.heap.size wB.drew W) => rmatG hb64 hn3 ((hGr.up hd).up hb) (c := z.c) (c0 := z.c0) (c1 := z.c1) hzf (posin_mono ((hzi.up (Nat.le_refl _) hd).up hd.size hb) (Nat.le_trans hd.size hb.size)))
          rw [HMV.out] at HZS HZR
          unfold PosV at HZS HZR
          refine wp_region_held_drew (S := (MC y S (k * 5) (xx + 1) [.int .i64 (bc : Int), .slice an 1 1, .slice at_ 1 1, .slice ak nk ck, .int .i64 2, .bool false, .slice none 0 0, .int .i64 3, .int .i64 2] z qx.rights)) (by kernel_rfl) (hmc.up hd) (fun hSD => ?_)
          generalize wB.drew = wD at *
          refine TC 0 ?_
          (try simp only [pS])
          refine TC 1 ?_
          (try simp only [pS])
          refine TC 2 ?_
          (try simp only [pS])
          refine TC 3 ?_
          (try simp only [pS])
          refine TC 4 ?_
          (try simp only [pS])
          refine TC 5 ?_
          (try simp only [pS])
          refine TC 6 ?_
          (try simp only [pS])
          refine TC 7 ?_
          (try simp only [pS])
          refine TC 8 ?_
          (try simp only [pS])
          refine TX 9 (YL rfl 35 _ rfl y 0 rfl _ [.int .i64 (bc : Int), .slice an 1 1, .slice at_ 1 1, .slice ak nk ck, .int .i64 2, .bool false, .slice none 0 0, .int .i64 3, .int .i64 2] _ _ (fun _ h => h.hg) rfl Try.underlying35 rfl info_game) ?_
          (try simp only [pS])
          refine TC 10 ?_
          (try simp only [pS])
          refine TC 11 ?_
          (try simp only [pS])
          refine TC 12 ?_
          (try simp only [pS])
          refine TC 13 ?_
          (try simp only [pS])
          refine TX 15 (YL rfl 35 _ rfl y 0 rfl _ [.int .i64 (bc : Int), .slice an 1 1, .slice at_ 1 1, .slice ak nk ck, .int .i64 2, .bool false, .slice none 0 0, .int .i64 3, .int .i64 2] _ _ (fun _ h => h.hg) rfl Try.underlying35 rfl info_game) ?_
          (try simp only [pS])
          refine TC 16 ?_
          (try simp only [pS])
          refine TC 17 ?_
          (try simp only [pS])
          refine TC 18 ?_
          (try simp only [pS])
          refine TC 19 ?_
          (try simp only [pS])
          refine wpAnyH_ready (rs := [14]) (by kernel_rfl) (by simp) ?_
          refine AC (i := 14) (fun K hK => ?_) AllReadyH.nil
          refine step_call_h rfl 16 _ _ #[.agg #[.int .i64 (bc : Int), .slice an 1 1, .slice at_ 1 1, .slice ak nk ck, .int .i64 2, .bool false, .slice none 0 0, .int .i64 3, .int .i64 2], .agg #[.slice z.a z.p.cells.length z.c, .slice z.a0 z.p.h0.length z.c0, .slice z.a1 z.p.h1.length z.c1, .int .i64 z.p.rights, .int .i64 z.p.side]] rfl rfl (enters_of Try.func16 (by kernel_rfl) rfl) (HZS.out.mono ?_)
          rintro e wE ⟨rfl, hbE⟩
          have hSE := hSD.up hbE
          refine ⟨_, rfl, hK.out _ _ hSE (fun _ => ?_)⟩
          clear hK K HZS
          (try simp only [pS])
          refine wpAnyH_ready (rs := [20]) (by kernel_rfl) (by simp) ?_
          refine AC (i := 20) (fun K hK => ?_) AllReadyH.nil
          refine step_call_h rfl 17 _ _ #[.agg #[.int .i64 (bc : Int), .slice an 1 1, .slice at_ 1 1, .slice ak nk ck, .int .i64 2, .bool false, .slice none 0 0, .int .i64 3, .int .i64 2], .agg #[.slice z.a z.p.cells.length z.c, .slice z.a0 z.p.h0.length z.c0, .slice z.a1 z.p.h1.length z.c1, .int .i64 z.p.rights, .int .i64 z.p.side]] rfl rfl (enters_of Try.func17 (by kernel_rfl) rfl) ((HZR.out wE hbE).mono ?_)
          rintro e wF ⟨rfl, hbF⟩
          have hSF := hSE.up hbF
          refine ⟨_, rfl, hK.out _ _ hSF (fun _ => ?_)⟩
          clear hK K HZR
          (try simp only [pS])
          have HF := Lib.hid (below_step (below_step hd hbE) hbF)
          have tb : (mv != mv) = false := by cases mv <;> rfl
          refine TC 21 ?_
          (try simp only [pS])
          refine TC 22 ?_
          (try simp only [pS])
          refine wpAnyH_done (by kernel_rfl) ?_ _
          go_wp2_with fail
          go_meet
          case rel => exact ⟨rfl, HF.out⟩
        case rest =>
        obtain ⟨rfl, hbN⟩ := hcut
        
        generalize wc = wC at *
        replace hmc := hmc.up hbN
        replace hzi := posin_mono (hzi.up (Nat.le_refl _) hbN) hbN.size
        replace hGr := hGr.up hbN
        replace hbr := Lib.hid (below_step hbr.out hbN)
        go_upto_region 16 with (fail)
        go_cut [19, 20] (fun v e wx => ∃ (B : Nat) (b b0 b1 : Option Addr) (e0 e1 e2 : Nat), v = .pointer (some ⟨B, 0, none⟩) ∧ e = .int .i64 (ae : Int) ∧ wx.heap[B]? = some (.cells #[.slice b ap.cells.length e0, .slice b0 ap.h0.length e1, .slice b1 ap.h1.length e2, .int .i64 ap.rights, .int .i64 ap.side] 27 (0, 0)) ∧ POwn 0 wx b b0 b1 e0 e1 e2 ap ∧ Below wC.heap.size wC wx)
        case first =>
          have hd : Below wC.heap.size wC wC.drew := (Below.refl _ _).drew
          have HZS := Lib.hid (fun W (hb : Below wC.drew.heap.size wC.drew W) => patG hb64 hn1 hn3 ((hGr.up hd).up hb) (c := z.c) (c0 := z.c0) (c1 := z.c1) hzf (posin_mono ((hzi.up (Nat.le_refl _) hd).up hd.size hb) (Nat.le_trans hd.size hb.size)) qx.rights)
          rw [HAV.out] at HZS
          unfold PosV at HZS
          dsimp only at HZS
          have hmd := hmc.up hd
          refine wp_region_held_drew (S := (MC y S (k * 5) (xx + 1) [.int .i64 (bc : Int), .slice an 1 1, .slice at_ 1 1, .slice ak nk ck, .int .i64 2, .bool false, .slice none 0 0, .int .i64 3, .int .i64 2] z qx.rights)) (by kernel_rfl) hmd (fun hSD => ?_)
          have HD := Lib.hid hd
          have hly := bx_lt hmd.hg
          have hlS : S < wC.drew.heap.size := World.block_lt_of_cell? _ _ hmd.m0
          have hlx : xx + 1 < wC.drew.heap.size := World.block_lt_of_cell? _ _ hmd.x3
          have hle : wC.heap.size ≤ wC.drew.heap.size := hd.size
          generalize wC.drew = wD at *
          clear hmd hd
          refine TX 0 (YL rfl 35 _ rfl y 0 rfl _ [.int .i64 (bc : Int), .slice an 1 1, .slice at_ 1 1, .slice ak nk ck, .int .i64 2, .bool false, .slice none 0 0, .int .i64 3, .int .i64 2] _ _ (fun _ h => h.hg) rfl Try.underlying35 rfl info_game) ?_
          (try simp only [pS])
          refine TC 1 ?_
          (try simp only [pS])
          refine TC 2 ?_
          (try simp only [pS])
          refine TC 3 ?_
          (try simp only [pS])
          refine TC 4 ?_
          (try simp only [pS])
          refine TC 5 ?_
          (try simp only [pS])
          refine TC 6 ?_
          (try simp only [pS])
          refine wpAnyH_ready (rs := [7, 11]) (by kernel_rfl) (by simp) ?_
          refine AC (i := 7) (fun K hK => ?_) ?_
          · refine step_call_h rfl 18 _ _ #[.agg #[.int .i64 (bc : Int), .slice an 1 1, .slice at_ 1 1, .slice ak nk ck, .int .i64 2, .bool false, .slice none 0 0, .int .i64 3, .int .i64 2], .agg #[.slice z.a z.p.cells.length z.c, .slice z.a0 z.p.h0.length z.c0, .slice z.a1 z.p.h1.length z.c1, .int .i64 z.p.rights, .int .i64 z.p.side], .int .i64 qx.rights] rfl rfl (enters_of Try.func18 (by kernel_rfl) rfl) ((HZS.out wD (Below.refl _ _)).mono ?_)
            rintro e wI ⟨b, b0, b1, e0, e1, e2, rfl, hPI, hbI⟩
            have hSI := hSD.up hbI
            refine ⟨_, rfl, hK.out _ _ hSI (fun _ => ?_)⟩
            clear hK K HZS
            (try simp only [pS])
            refine TC 8 ?_
            (try simp only [pS])
            refine TC 9 ?_
            (try simp only [pS])
            refine TC 10 ?_
            (try simp only [pS])
            refine wpAnyH_ready (rs := [11]) (by kernel_rfl) (by simp) ?_
            refine AC (i := 11) (fun K hK => ?_) AllReadyH.nil
            refine step_al rfl (cs := #[.slice none 0 0, .slice none 0 0, .slice none 0 0, .int .i64 0, .int .i64 0]) (t := 27) (by go_simp; try rfl) ?_
            have bwb : Below wI.heap.size wI (wI.alloc (.cells #[.slice none 0 0, .slice none 0 0, .slice none 0 0, .int .i64 0, .int .i64 0] 27)) := below_alloc (Below.refl _ _) _
            have zwb := World.alloc_heap_new wI (.cells #[.slice none 0 0, .slice none 0 0, .slice none 0 0, .int .i64 0, .int .i64 0] 27)
            have hSb := hSI.up bwb
            have hPb := POwn.mono0 (hPI.upx bwb)
            refine hK.out _ _ hSb (fun _ => ?_)
            clear hK K
            (try simp only [pS])
            generalize wI.alloc (.cells #[.slice none 0 0, .slice none 0 0, .slice none 0 0, .int .i64 0, .int .i64 0] 27) = wb at *
            refine wpAnyH_ready (rs := [12]) (by kernel_rfl) (by simp) ?_
            refine AC (i := 12) (fun K hK => ?_) AllReadyH.nil
            have s1 := hbI.size
            refine step_store_rw rfl 27 _ _ rfl wI.heap.size #[.slice b ap.cells.length e0, .slice b0 ap.h0.length e1, .slice b1 ap.h1.length e2, .int .i64 ap.rights, .int .i64 ap.side] rfl rfl 27 _ zwb info_pos rfl (by simp [Value.oneCell']) ?_
            have HF := Lib.hid (And.intro (setRow_heap wb wI.heap.size _ #[.slice b ap.cells.length e0, .slice b0 ap.h0.length e1, .slice b1 ap.h1.length e2, .int .i64 ap.rights, .int .i64 ap.side] _ _ zwb) (And.intro (hPb.row (cs := #[.slice b ap.cells.length e0, .slice b0 ap.h0.length e1, .slice b1 ap.h1.length e2, .int .i64 ap.rights, .int .i64 ap.side]) zwb (by decide)) (((HD.out.trans (hbI.mono hle)).trans (bwb.mono (by omega))).trans ((setRow_alt wb wI.heap.size #[.slice b ap.cells.length e0, .slice b0 ap.h0.length e1, .slice b1 ap.h1.length e2, .int .i64 ap.rights, .int .i64 ap.side]).below (by have := bwb.size; omega) (fun q hq => by have e : q = wI.heap.size := hq; omega)))))
            refine hK.out _ _ (hSb.row (by omega) (by omega) (by omega)) (fun _ => ?_)
            clear hK K
            generalize wb.setRow wI.heap.size #[.slice b ap.cells.length e0, .slice b0 ap.h0.length e1, .slice b1 ap.h1.length e2, .int .i64 ap.rights, .int .i64 ap.side] = wz at *
            have hSz : (MC y S (k * 5) (xx + 1) [.int .i64 (bc : Int), .slice an 1 1, .slice at_ 1 1, .slice ak nk ck, .int .i64 2, .bool false, .slice none 0 0, .int .i64 3, .int .i64 2] z qx.rights) wz := by assumption
            refine TC 13 ?_
            (try simp only [pS])
            refine wpAnyH_done (by kernel_rfl) ?_ _
            go_wp2_with fail
            go_meet
            case rel => exact ⟨_, _, _, _, _, _, _, rfl, rfl, HF.out.1, HF.out.2.1, HF.out.2.2⟩
          refine AC (i := 11) (fun K hK => ?_) AllReadyH.nil
          refine step_al rfl (cs := #[.slice none 0 0, .slice none 0 0, .slice none 0 0, .int .i64 0, .int .i64 0]) (t := 27) (by go_simp; try rfl) ?_
          have bwa : Below wD.heap.size wD (wD.alloc (.cells #[.slice none 0 0, .slice none 0 0, .slice none 0 0, .int .i64 0, .int .i64 0] 27)) := below_alloc (Below.refl _ _) _
          have zwa := World.alloc_heap_new wD (.cells #[.slice none 0 0, .slice none 0 0, .slice none 0 0, .int .i64 0, .int .i64 0] 27)
          have hSa := hSD.up bwa
          refine hK.out _ _ hSa (fun _ => ?_)
          clear hK K
          (try simp only [pS])
          have HZA := Lib.hid (HZS.out _ bwa)
          generalize wD.alloc (.cells #[.slice none 0 0, .slice none 0 0, .slice none 0 0, .int .i64 0, .int .i64 0] 27) = wa at *
          refine wpAnyH_ready (rs := [7]) (by kernel_rfl) (by simp) ?_
          refine AC (i := 7) (fun K hK => ?_) AllReadyH.nil
          refine step_call_h rfl 18 _ _ #[.agg #[.int .i64 (bc : Int), .slice an 1 1, .slice at_ 1 1, .slice ak nk ck, .int .i64 2, .bool false, .slice none 0 0, .int .i64 3, .int .i64 2], .agg #[.slice z.a z.p.cells.length z.c, .slice z.a0 z.p.h0.length z.c0, .slice z.a1 z.p.h1.length z.c1, .int .i64 z.p.rights, .int .i64 z.p.side], .int .i64 qx.rights] rfl rfl (enters_of Try.func18 (by kernel_rfl) rfl) (HZA.out.mono ?_)
          rintro e wI ⟨b, b0, b1, e0, e1, e2, rfl, hPI, hbI⟩
          have hSI := hSa.up hbI
          refine ⟨_, rfl, hK.out _ _ hSI (fun _ => ?_)⟩
          clear hK K HZS HZA
          (try simp only [pS])
          refine TC 8 ?_
          (try simp only [pS])
          refine TC 9 ?_
          (try simp only [pS])
          refine TC 10 ?_
          (try simp only [pS])
          refine wpAnyH_ready (rs := [12]) (by kernel_rfl) (by simp) ?_
          refine AC (i := 12) (fun K hK => ?_) AllReadyH.nil
          have hZ := hp_up zwa hbI
          have hPb := POwn.mono0 hPI
          have s1 := bwa.size
          have s2 := hbI.size
          refine step_store_rw rfl 27 _ _ rfl wD.heap.size #[.slice b ap.cells.length e0, .slice b0 ap.h0.length e1, .slice b1 ap.h1.length e2, .int .i64 ap.rights, .int .i64 ap.side] rfl rfl 27 _ hZ info_pos rfl (by simp [Value.oneCell']) ?_
          have HF := Lib.hid (And.intro (setRow_heap wI wD.heap.size _ #[.slice b ap.cells.length e0, .slice b0 ap.h0.length e1, .slice b1 ap.h1.length e2, .int .i64 ap.rights, .int .i64 ap.side] _ _ hZ) (And.intro (hPb.row (cs := #[.slice b ap.cells.length e0, .slice b0 ap.h0.length e1, .slice b1 ap.h1.length e2, .int .i64 ap.rights, .int .i64 ap.side]) hZ (by decide)) (((HD.out.trans (bwa.mono hle)).trans (hbI.mono (by omega))).trans ((setRow_alt wI wD.heap.size #[.slice b ap.cells.length e0, .slice b0 ap.h0.length e1, .slice b1 ap.h1.length e2, .int .i64 ap.rights, .int .i64 ap.side]).below (by omega) (fun q hq => by have e : q = wD.heap.size := hq; omega)))))
          refine hK.out _ _ (hSI.row (by omega) (by omega) (by omega)) (fun _ => ?_)
          clear hK K
          generalize wI.setRow wD.heap.size #[.slice b ap.cells.length e0, .slice b0 ap.h0.length e1, .slice b1 ap.h1.length e2, .int .i64 ap.rights, .int .i64 ap.side] = wz at *
          have hSz : (MC y S (k * 5) (xx + 1) [.int .i64 (bc : Int), .slice an 1 1, .slice at_ 1 1, .slice ak nk ck, .int .i64 2, .bool false, .slice none 0 0, .int .i64 3, .int .i64 2] z qx.rights) wz := by assumption
          refine TC 13 ?_
          (try simp only [pS])
          refine wpAnyH_done (by kernel_rfl) ?_ _
          go_wp2_with fail
          go_meet
          case rel => exact ⟨_, _, _, _, _, _, _, rfl, rfl, HF.out.1, HF.out.2.1, HF.out.2.2⟩
        case rest =>
        obtain ⟨B1, b, b0, b1, e0, e1, e2, rfl, rfl, hN1, hO1, hbN⟩ := hcut
        
        generalize wc = wE at *
        replace hmc := hmc.up hbN
        replace hzi := posin_mono (hzi.up (Nat.le_refl _) hbN) hbN.size
        replace hGr := hGr.up hbN
        replace hbr := Lib.hid (below_step hbr.out hbN)
        go_upto_region 17 with (fail)
        go_cut [21, 22] (fun v e wx => ∃ (B : Nat) (b b0 b1 : Option Addr) (e0 e1 e2 : Nat), v = .pointer (some ⟨B, 0, none⟩) ∧ e = .int .i64 (ae : Int) ∧ wx.heap[B]? = some (.cells #[.slice b ap.cells.length e0, .slice b0 ap.h0.length e1, .slice b1 ap.h1.length e2, .int .i64 ap.rights, .int .i64 ap.side] 27 (0, 0)) ∧ POwn 0 wx b b0 b1 e0 e1 e2 ap ∧ Below wE.heap.size wE wx)
        case first =>
          have hd : Below wE.heap.size wE wE.drew := (Below.refl _ _).drew
          have HZS := Lib.hid (fun W (hb : Below wE.drew.heap.size wE.drew W) => ratG hb64 hb1 hn1 hn3 ((hGr.up hd).up hb) (c := z.c) (c0 := z.c0) (c1 := z.c1) hzf (posin_mono ((hzi.up (Nat.le_refl _) hd).up hd.size hb) (Nat.le_trans hd.size hb.size)) qx.rights)
          rw [HAV.out] at HZS
          unfold PosV at HZS
          dsimp only at HZS
          have hmd := hmc.up hd
          refine wp_region_held_drew (S := (MC y S (k * 5) (xx + 1) [.int .i64 (bc : Int), .slice an 1 1, .slice at_ 1 1, .slice ak nk ck, .int .i64 2, .bool false, .slice none 0 0, .int .i64 3, .int .i64 2] z qx.rights)) (by kernel_rfl) hmd (fun hSD => ?_)
          have HD := Lib.hid hd
          have hly := bx_lt hmd.hg
          have hlS : S < wE.drew.heap.size := World.block_lt_of_cell? _ _ hmd.m0
          have hlx : xx + 1 < wE.drew.heap.size := World.block_lt_of_cell? _ _ hmd.x3
          have hle : wE.heap.size ≤ wE.drew.heap.size := hd.size
          generalize wE.drew = wD at *
          clear hmd hd
          refine TX 0 (YL rfl 35 _ rfl y 0 rfl _ [.int .i64 (bc : Int), .slice an 1 1, .slice at_ 1 1, .slice ak nk ck, .int .i64 2, .bool false, .slice none 0 0, .int .i64 3, .int .i64 2] _ _ (fun _ h => h.hg) rfl Try.underlying35 rfl info_game) ?_
          (try simp only [pS])
          refine TC 1 ?_
          (try simp only [pS])
          refine TC 2 ?_
          (try simp only [pS])
          refine TC 3 ?_
          (try simp only [pS])
          refine TC 4 ?_
          (try simp only [pS])
          refine TC 5 ?_
          (try simp only [pS])
          refine TC 6 ?_
          (try simp only [pS])
          refine wpAnyH_ready (rs := [7, 11]) (by kernel_rfl) (by simp) ?_
          refine AC (i := 7) (fun K hK => ?_) ?_
          · refine step_call_h rfl 19 _ _ #[.agg #[.int .i64 (bc : Int), .slice an 1 1, .slice at_ 1 1, .slice ak nk ck, .int .i64 2, .bool false, .slice none 0 0, .int .i64 3, .int .i64 2], .agg #[.slice z.a z.p.cells.length z.c, .slice z.a0 z.p.h0.length z.c0, .slice z.a1 z.p.h1.length z.c1, .int .i64 z.p.rights, .int .i64 z.p.side], .int .i64 qx.rights] rfl rfl (enters_of Try.func19 (by kernel_rfl) rfl) ((HZS.out wD (Below.refl _ _)).mono ?_)
            rintro e wI ⟨b, b0, b1, e0, e1, e2, rfl, hPI, hbI⟩
            have hSI := hSD.up hbI
            refine ⟨_, rfl, hK.out _ _ hSI (fun _ => ?_)⟩
            clear hK K HZS
            (try simp only [pS])
            refine TC 8 ?_
            (try simp only [pS])
            refine TC 9 ?_
            (try simp only [pS])
            refine TC 10 ?_
            (try simp only [pS])
            refine wpAnyH_ready (rs := [11]) (by kernel_rfl) (by simp) ?_
            refine AC (i := 11) (fun K hK => ?_) AllReadyH.nil
            refine step_al rfl (cs := #[.slice none 0 0, .slice none 0 0, .slice none 0 0, .int .i64 0, .int .i64 0]) (t := 27) (by go_simp; try rfl) ?_
            have bwb : Below wI.heap.size wI (wI.alloc (.cells #[.slice none 0 0, .slice none 0 0, .slice none 0 0, .int .i64 0, .int .i64 0] 27)) := below_alloc (Below.refl _ _) _
            have zwb := World.alloc_heap_new wI (.cells #[.slice none 0 0, .slice none 0 0, .slice none 0 0, .int .i64 0, .int .i64 0] 27)
            have hSb := hSI.up bwb
            have hPb := POwn.mono0 (hPI.upx bwb)
            refine hK.out _ _ hSb (fun _ => ?_)
            clear hK K
            (try simp only [pS])
            generalize wI.alloc (.cells #[.slice none 0 0, .slice none 0 0, .slice none 0 0, .int .i64 0, .int .i64 0] 27) = wb at *
            refine wpAnyH_ready (rs := [12]) (by kernel_rfl) (by simp) ?_
            refine AC (i := 12) (fun K hK => ?_) AllReadyH.nil
            have s1 := hbI.size
            refine step_store_rw rfl 27 _ _ rfl wI.heap.size #[.slice b ap.cells.length e0, .slice b0 ap.h0.length e1, .slice b1 ap.h1.length e2, .int .i64 ap.rights, .int .i64 ap.side] rfl rfl 27 _ zwb info_pos rfl (by simp [Value.oneCell']) ?_
            have HF := Lib.hid (And.intro (setRow_heap wb wI.heap.size _ #[.slice b ap.cells.length e0, .slice b0 ap.h0.length e1, .slice b1 ap.h1.length e2, .int .i64 ap.rights, .int .i64 ap.side] _ _ zwb) (And.intro (hPb.row (cs := #[.slice b ap.cells.length e0, .slice b0 ap.h0.length e1, .slice b1 ap.h1.length e2, .int .i64 ap.rights, .int .i64 ap.side]) zwb (by decide)) (((HD.out.trans (hbI.mono hle)).trans (bwb.mono (by omega))).trans ((setRow_alt wb wI.heap.size #[.slice b ap.cells.length e0, .slice b0 ap.h0.length e1, .slice b1 ap.h1.length e2, .int .i64 ap.rights, .int .i64 ap.side]).below (by have := bwb.size; omega) (fun q hq => by have e : q = wI.heap.size := hq; omega)))))
            refine hK.out _ _ (hSb.row (by omega) (by omega) (by omega)) (fun _ => ?_)
            clear hK K
            generalize wb.setRow wI.heap.size #[.slice b ap.cells.length e0, .slice b0 ap.h0.length e1, .slice b1 ap.h1.length e2, .int .i64 ap.rights, .int .i64 ap.side] = wz at *
            have hSz : (MC y S (k * 5) (xx + 1) [.int .i64 (bc : Int), .slice an 1 1, .slice at_ 1 1, .slice ak nk ck, .int .i64 2, .bool false, .slice none 0 0, .int .i64 3, .int .i64 2] z qx.rights) wz := by assumption
            refine TC 13 ?_
            (try simp only [pS])
            refine wpAnyH_done (by kernel_rfl) ?_ _
            go_wp2_with fail
            go_meet
            case rel => exact ⟨_, _, _, _, _, _, _, rfl, rfl, HF.out.1, HF.out.2.1, HF.out.2.2⟩
          refine AC (i := 11) (fun K hK => ?_) AllReadyH.nil
          refine step_al rfl (cs := #[.slice none 0 0, .slice none 0 0, .slice none 0 0, .int .i64 0, .int .i64 0]) (t := 27) (by go_simp; try rfl) ?_
          have bwa : Below wD.heap.size wD (wD.alloc (.cells #[.slice none 0 0, .slice none 0 0, .slice none 0 0, .int .i64 0, .int .i64 0] 27)) := below_alloc (Below.refl _ _) _
          have zwa := World.alloc_heap_new wD (.cells #[.slice none 0 0, .slice none 0 0, .slice none 0 0, .int .i64 0, .int .i64 0] 27)
          have hSa := hSD.up bwa
          refine hK.out _ _ hSa (fun _ => ?_)
          clear hK K
          (try simp only [pS])
          have HZA := Lib.hid (HZS.out _ bwa)
          generalize wD.alloc (.cells #[.slice none 0 0, .slice none 0 0, .slice none 0 0, .int .i64 0, .int .i64 0] 27) = wa at *
          refine wpAnyH_ready (rs := [7]) (by kernel_rfl) (by simp) ?_
          refine AC (i := 7) (fun K hK => ?_) AllReadyH.nil
          refine step_call_h rfl 19 _ _ #[.agg #[.int .i64 (bc : Int), .slice an 1 1, .slice at_ 1 1, .slice ak nk ck, .int .i64 2, .bool false, .slice none 0 0, .int .i64 3, .int .i64 2], .agg #[.slice z.a z.p.cells.length z.c, .slice z.a0 z.p.h0.length z.c0, .slice z.a1 z.p.h1.length z.c1, .int .i64 z.p.rights, .int .i64 z.p.side], .int .i64 qx.rights] rfl rfl (enters_of Try.func19 (by kernel_rfl) rfl) (HZA.out.mono ?_)
          rintro e wI ⟨b, b0, b1, e0, e1, e2, rfl, hPI, hbI⟩
          have hSI := hSa.up hbI
          refine ⟨_, rfl, hK.out _ _ hSI (fun _ => ?_)⟩
          clear hK K HZS HZA
          (try simp only [pS])
          refine TC 8 ?_
          (try simp only [pS])
          refine TC 9 ?_
          (try simp only [pS])
          refine TC 10 ?_
          (try simp only [pS])
          refine wpAnyH_ready (rs := [12]) (by kernel_rfl) (by simp) ?_
          refine AC (i := 12) (fun K hK => ?_) AllReadyH.nil
          have hZ := hp_up zwa hbI
          have hPb := POwn.mono0 hPI
          have s1 := bwa.size
          have s2 := hbI.size
          refine step_store_rw rfl 27 _ _ rfl wD.heap.size #[.slice b ap.cells.length e0, .slice b0 ap.h0.length e1, .slice b1 ap.h1.length e2, .int .i64 ap.rights, .int .i64 ap.side] rfl rfl 27 _ hZ info_pos rfl (by simp [Value.oneCell']) ?_
          have HF := Lib.hid (And.intro (setRow_heap wI wD.heap.size _ #[.slice b ap.cells.length e0, .slice b0 ap.h0.length e1, .slice b1 ap.h1.length e2, .int .i64 ap.rights, .int .i64 ap.side] _ _ hZ) (And.intro (hPb.row (cs := #[.slice b ap.cells.length e0, .slice b0 ap.h0.length e1, .slice b1 ap.h1.length e2, .int .i64 ap.rights, .int .i64 ap.side]) hZ (by decide)) (((HD.out.trans (bwa.mono hle)).trans (hbI.mono (by omega))).trans ((setRow_alt wI wD.heap.size #[.slice b ap.cells.length e0, .slice b0 ap.h0.length e1, .slice b1 ap.h1.length e2, .int .i64 ap.rights, .int .i64 ap.side]).below (by omega) (fun q hq => by have e : q = wD.heap.size := hq; omega)))))
          refine hK.out _ _ (hSI.row (by omega) (by omega) (by omega)) (fun _ => ?_)
          clear hK K
          generalize wI.setRow wD.heap.size #[.slice b ap.cells.length e0, .slice b0 ap.h0.length e1, .slice b1 ap.h1.length e2, .int .i64 ap.rights, .int .i64 ap.side] = wz at *
          have hSz : (MC y S (k * 5) (xx + 1) [.int .i64 (bc : Int), .slice an 1 1, .slice at_ 1 1, .slice ak nk ck, .int .i64 2, .bool false, .slice none 0 0, .int .i64 3, .int .i64 2] z qx.rights) wz := by assumption
          refine TC 13 ?_
          (try simp only [pS])
          refine wpAnyH_done (by kernel_rfl) ?_ _
          go_wp2_with fail
          go_meet
          case rel => exact ⟨_, _, _, _, _, _, _, rfl, rfl, HF.out.1, HF.out.2.1, HF.out.2.2⟩
        case rest =>
        obtain ⟨B2, f, f0, f1, i0, i1, i2, rfl, rfl, hN2, hO2, hbN⟩ := hcut
        replace hN1 := hp_up hN1 hbN
        replace hO1 := hO1.upx hbN
        
        generalize wc = wF at *
        replace hmc := hmc.up hbN
        replace hzi := posin_mono (hzi.up (Nat.le_refl _) hbN) hbN.size
        replace hGr := hGr.up hbN
        replace hbr := Lib.hid (below_step hbr.out hbN)
        have hfa : PosFit ap := by
          have h9 := atV_fit (r := 2) (ks := blankK nk) hb64 hzf qx.rights
          rw [HAV.out] at h9
          exact h9
        have HCM := Lib.hid (rcompare_any ⟨ap, b, b0, b1, e0, e1, e2⟩ ⟨ap, f, f0, f1, i0, i1, i2⟩ wF.heap.size wF ⟨hfa, hO1.pin⟩ ⟨hfa, hO2.pin⟩ (Nat.le_refl _))
        rw [cmpP_self] at HCM
        unfold PosA.val PosV at HCM
        dsimp only at HCM
        go_wp2_with (first | (refine wpList_load_row rfl 27 (.tmp 19) rfl B1 rfl 27 _ (0, 0) _ hN1 Try.underlying27 rfl info_pos ?_) | (refine wpList_load_row rfl 27 (.tmp 21) rfl B2 rfl 27 _ (0, 0) _ hN2 Try.underlying27 rfl info_pos ?_) | (go_at_call 20; refine HCM.out.mono ?_; rintro e wG ⟨rfl, hbG⟩))
        go_roundw
        case rel => exact ⟨k + 1, by omega, by go_num, Lib.hid (below_step hbr.out hbG)⟩
        case measure => simp [intOf]; omega
      · obtain rfl : k = 3 := by omega
        have t1 : decide (((3 : Nat) : Int) < 3) = false := by decide
        have hGr := HGQ.out wr hbr.out
        have hPi := HPQ.out wr hbr.out
        have hXi := HXQ.out wr hbr.out
        have hQ := HQB.out wr hbr.out
        have hXP := HXB.out wr hbr.out
        have hgx := hGr.hg
        obtain ⟨rn, re, hrv⟩ : ∃ rn re, rankV bc 2 (blankK nk) (fldP nk q (l.length % 9)) = (rn, re) := ⟨_, _, rfl⟩
        obtain ⟨kn, ke, hkv⟩ : ∃ kn ke, rankV bc 2 (blankK nk) qx = (kn, ke) := ⟨_, _, rfl⟩
        have HRV := Lib.hid hrv
        have HKV := Lib.hid hkv
        have HB0 := Lib.hid (HGQ.out w11 (Below.refl _ _)).b
        clear hrv hkv HZ HPQ HXQ HGQ HXB HQB
        have HC1 := Lib.hid (rankG hb64 hn1 hn3 hGr (c := bc) (c0 := nk) (c1 := nk) HFP.out hPi)
        rw [HRV.out, fld_val hql] at HC1
        go_upto_region 21 with (first | (refine wpList_load_row rfl 35 (.tmp 8) rfl y rfl 35 _ (0, 0) _ hgx Try.underlying35 rfl info_game ?_) | (refine wpList_load_row rfl 27 (.tmp 9) rfl (y + 1) rfl 27 _ (0, 0) _ hQ Try.underlying27 rfl info_pos ?_) | (go_at_call 21; refine HC1.out.mono ?_; rintro e wA ⟨rfl, hbA⟩))
        replace hbr := Lib.hid (below_step hbr.out hbA)
        replace hGr := hGr.up hbA
        replace hPi := posin_mono (hPi.up (Nat.le_refl _) hbA) hbA.size
        replace hXi := posin_mono (hXi.up (Nat.le_refl _) hbA) hbA.size
        replace hQ := hp_up hQ hbA
        replace hXP := hp_up hXP hbA
        have hgx := hGr.hg
        clear hbA
        clear HC1
        have HC2 := Lib.hid (rrankG hb64 hb1 hn1 hn3 hGr (c := bc) (c0 := nk) (c1 := nk) HFP.out hPi)
        rw [HRV.out, fld_val hql] at HC2
        go_upto_region 22 with (first | (refine wpList_load_row rfl 35 (.tmp 8) rfl y rfl 35 _ (0, 0) _ hgx Try.underlying35 rfl info_game ?_) | (refine wpList_load_row rfl 27 (.tmp 9) rfl (y + 1) rfl 27 _ (0, 0) _ hQ Try.underlying27 rfl info_pos ?_) | (go_at_call 22; refine HC2.out.mono ?_; rintro e wB ⟨rfl, hbB⟩))
        replace hbr := Lib.hid (below_step hbr.out hbB)
        replace hGr := hGr.up hbB
        replace hPi := posin_mono (hPi.up (Nat.le_refl _) hbB) hbB.size
        replace hXi := posin_mono (hXi.up (Nat.le_refl _) hbB) hbB.size
        replace hQ := hp_up hQ hbB
        replace hXP := hp_up hXP hbB
        have hgx := hGr.hg
        clear hbB
        clear HC2
        have HC3 := Lib.hid (rankG hb64 hn1 hn3 hGr (c := xc) (c0 := xc0) (c1 := xc1) HXF.out hXi)
        rw [HKV.out] at HC3
        unfold PosV at HC3
        go_upto_region 23 with (first | (refine wpList_load_row rfl 35 (.tmp 8) rfl y rfl 35 _ (0, 0) _ hgx Try.underlying35 rfl info_game ?_) | (refine wpList_load_row rfl 27 (.tmp 5) rfl (xx + 1) rfl 27 _ (0, 0) _ hXP Try.underlying27 rfl info_pos ?_) | (go_at_call 21; refine HC3.out.mono ?_; rintro e wC ⟨rfl, hbC⟩))
        replace hbr := Lib.hid (below_step hbr.out hbC)
        replace hGr := hGr.up hbC
        replace hPi := posin_mono (hPi.up (Nat.le_refl _) hbC) hbC.size
        replace hXi := posin_mono (hXi.up (Nat.le_refl _) hbC) hbC.size
        replace hQ := hp_up hQ hbC
        replace hXP := hp_up hXP hbC
        have hgx := hGr.hg
        clear hbC
        clear HC3
        have HC4 := Lib.hid (rrankG hb64 hb1 hn1 hn3 hGr (c := xc) (c0 := xc0) (c1 := xc1) HXF.out hXi)
        rw [HKV.out] at HC4
        unfold PosV at HC4
        go_upto_region 24 with (first | (refine wpList_load_row rfl 35 (.tmp 8) rfl y rfl 35 _ (0, 0) _ hgx Try.underlying35 rfl info_game ?_) | (refine wpList_load_row rfl 27 (.tmp 5) rfl (xx + 1) rfl 27 _ (0, 0) _ hXP Try.underlying27 rfl info_pos ?_) | (go_at_call 22; refine HC4.out.mono ?_; rintro e wD ⟨rfl, hbD⟩))
        replace hbr := Lib.hid (below_step hbr.out hbD)
        replace hGr := hGr.up hbD
        replace hPi := posin_mono (hPi.up (Nat.le_refl _) hbD) hbD.size
        replace hXi := posin_mono (hXi.up (Nat.le_refl _) hbD) hbD.size
        replace hQ := hp_up hQ hbD
        replace hXP := hp_up hXP hbD
        have hgx := hGr.hg
        clear hbD
        clear HC4
        go_wp2
        go_ret
        exact ⟨rfl, hGr.b⟩
end Go.Proofs.Ytepbmgbomdekaaa
