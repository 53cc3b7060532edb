/-
  IndexOrder.
-/
import Derived.Test.YtepbmgbomdekaaaXRks
import Derived.Test.YtepbmgbomdekaaaXCpd
import Derived.Test.YtepbmgbomdekaaaXOrM
namespace Go.Proofs.Ytepbmgbomdekaaa
open Go Go.RowKit

/-- What the law's regions load. -/
structure OC (x y c g f : Nat) (bc d : Nat) (u0 u1 A B qa qb : Nat) (W : World) : Prop where
  x0 : W.cell? ⟨x, 0, none⟩ = some (.int .u8 (u0 : Int))
  x1 : W.cell? ⟨x, 1, none⟩ = some (.int .u8 (u1 : Int))
  p0 : W.cell? ⟨y, 0, none⟩ = some (.slice (some ⟨g, 0, none⟩) bc bc)
  c0 : W.cell? ⟨c, 0, none⟩ = some (.slice (some ⟨f, 0, none⟩) bc d)
  pa : W.cell? ⟨g, A, none⟩ = some (.int .i64 (qa : Int))
  pb : W.cell? ⟨g, B, none⟩ = some (.int .i64 (qb : Int))
theorem OC.up {x y c g f bc d u0 u1 A B qa qb : Nat} {W W' : World} (h : OC x y c g f bc d u0 u1 A B qa qb W) (hb : Below W.heap.size W W') : OC x y c g f bc d u0 u1 A B qa qb W' :=
  ⟨cell_up h.x0 hb, cell_up h.x1 hb, cell_up h.p0 hb, cell_up h.c0 hb, cell_up h.pa hb, cell_up h.pb hb⟩
theorem OC.far {x y c g f bc d u0 u1 A B qa qb j : Nat} {v : Value} {W : World} (h : OC x y c g f bc d u0 u1 A B qa qb W) (h1 : ¬ x = f) (h2 : ¬ y = f) (h3 : ¬ c = f) (h4 : ¬ g = f) : OC x y c g f bc d u0 u1 A B qa qb (W.setCell ⟨f, j, none⟩ v) :=
  ⟨cell_far h.x0 h1, cell_far h.x1 h1, cell_far h.p0 h2, cell_far h.c0 h3, cell_far h.pa h4, cell_far h.pb h4⟩
theorem SG.cell {w W : World} {y N f j : Nat} {v : Value} {G : List Value} {ak : Option Addr} {ks : List Bool} (h : SG w y G N ak ks W) (h1 : w.heap.size ≤ f) (h2 : ¬ y = f) (h3 : N ≤ f) : SG w y G N ak ks (W.setCell ⟨f, j, none⟩ v) := by
  have ha := alters_cell W f j v
  exact ⟨h.b.trans (ha.below h.b.size (fun k hk => by have e : k = f := hk; omega)), (ha.block y (bx_lt h.hg) h2).trans h.hg, Nat.le_trans h.hn ha.size, h.hk.below (ha.below h.hn (fun k hk => by have e : k = f := hk; omega))⟩
theorem box_far {W : World} {B f j : Nat} {v : Value} {o : Obj} (h : W.heap[B]? = some o) (hn : ¬ B = f) : (W.setCell ⟨f, j, none⟩ v).heap[B]? = some o := ((alters_cell W f j v).block B (bx_lt h) hn).trans h
theorem POwn.cell {n : Nat} {W : World} {g g0 g1 d d0 d1 f j : Nat} {v : Value} {p : PosS} (h : POwn n W (some ⟨g, 0, none⟩) (some ⟨g0, 0, none⟩) (some ⟨g1, 0, none⟩) d d0 d1 p) (n0 : ¬ g = f) (n1 : ¬ g0 = f) (n2 : ¬ g1 = f) :
    POwn n (W.setCell ⟨f, j, none⟩ v) (some ⟨g, 0, none⟩) (some ⟨g0, 0, none⟩) (some ⟨g1, 0, none⟩) d d0 d1 p := by
  have ha := alters_cell W f j v
  exact ⟨h.cells.alters ha (fun k hk e => n0 (by have e1 : k = f := hk; cases e; exact e1)), h.h0.alters ha (fun k hk e => n1 (by have e1 : k = f := hk; cases e; exact e1)), h.h1.alters ha (fun k hk e => n2 (by have e1 : k = f := hk; cases e; exact e1))⟩
theorem POwn.swap {n : Nat} {W : World} {g g0 g1 d d0 d1 A B nk h9 : Nat} {q : List Nat} (h : POwn n W (some ⟨g, 0, none⟩) (some ⟨g0, 0, none⟩) (some ⟨g1, 0, none⟩) d d0 d1 (fldP nk q h9)) (n1 : ¬ g = g0) (n2 : ¬ g = g1) :
    POwn n ((W.setCell ⟨g, A, none⟩ (.int .i64 (q.getD B 0 : Nat))).setCell ⟨g, B, none⟩ (.int .i64 (q.getD A 0 : Nat))) (some ⟨g, 0, none⟩) (some ⟨g0, 0, none⟩) (some ⟨g1, 0, none⟩) d d0 d1 (fldP nk (swapN q A B) h9) := by
  have ha := alters_cell W g A (.int .i64 (q.getD B 0 : Nat))
  have hb := alters_cell (W.setCell ⟨g, A, none⟩ (.int .i64 (q.getD B 0 : Nat))) g B (.int .i64 (q.getD A 0 : Nat))
  refine ⟨?_, (h.h0.alters ha (fun k hk e => n1 (by have e1 : k = g := hk; cases e; exact e1.symm))).alters hb (fun k hk e => n1 (by have e1 : k = g := hk; cases e; exact e1.symm)), (h.h1.alters ha (fun k hk e => n2 (by have e1 : k = g := hk; cases e; exact e1.symm))).alters hb (fun k hk e => n2 (by have e1 : k = g := hk; cases e; exact e1.symm))⟩
  have hc := (h.cells.set A ((q.getD B 0 : Nat) : Int)).set B ((q.getD A 0 : Nat) : Int)
  show OwnInts _ _ (.slice _ (zs (swapN q A B)).length _) (zs (swapN q A B))
  have e : (zs (swapN q A B)).length = (zs q).length := by rw [zs_len, zs_len, swapN_len]
  rw [e, ← swapN_zs q A B]
  exact hc
set_option maxRecDepth 100000 in
set_option maxHeartbeats 8000000 in
theorem order_any (z0 z1 u0 u1 : Nat) (al : Option Addr) (cl N : Nat) (l : List Nat) (w : World) (h0 : z0 ≤ 255) (h1 : z1 ≤ 255) (k0 : u0 ≤ 255) (k1 : u1 ≤ 255) (hU : U8s N w al l) (hN : N ≤ w.heap.size) :
    Calls Try.prog 5 #[.agg #[.int .u8 (z0 : Int), .int .u8 (z1 : Int)], .slice al l.length cl, .agg #[.int .u8 (u0 : Int), .int .u8 (u1 : Int)]] w fun e w' => e = .returned (.bool true) ∧ Below w.heap.size w w' := by
  obtain ⟨bc, hbc⟩ : ∃ bc, bc = 1 + z0 % 64 := ⟨_, rfl⟩
  obtain ⟨nk, hnk⟩ : ∃ nk, nk = 1 + z1 % 3 := ⟨_, rfl⟩
  have hb64 : bc ≤ 64 := by omega
  have hb1 : 1 ≤ bc := by omega
  have hn1 : 1 ≤ nk := by omega
  have hn3 : nk ≤ 3 := by omega
  have HBC := Lib.hid hbc
  have HNK := Lib.hid hnk
  clear hbc hnk
  have HSA := Lib.hid (fun W => sanity_any W)
  obtain ⟨hbx, hX, hR, hS⟩ := two_boxes w #[.int .u8 (z0 : Int), .int .u8 (z1 : Int)] #[.int .u8 (u0 : Int), .int .u8 (u1 : Int)] 22 22
  have hUx := hU.up hN hbx
  have hbk := Lib.hid hbx
  go_enter Try.func5, Try.ntmps5
  go_upto_region 1 with (fail)
  generalize (w.alloc (.cells #[.int .u8 (z0 : Int), .int .u8 (z1 : Int)] 22)).alloc (.cells #[.int .u8 (u0 : Int), .int .u8 (u1 : Int)] 22) = w0 at *
  obtain ⟨xx, hxx⟩ : ∃ xx, xx = w.heap.size := ⟨_, rfl⟩
  have HXX := Lib.hid hxx
  simp only [← hxx] at hN hX hR hS hUx ⊢
  clear hxx
  go_upto_region 2 with (go_at_call 9; refine (HSA.out _).mono ?_; rintro e w1 ⟨rfl, hbs⟩)
  have hX1 := hp_up hX hbs
  have hR1 := hp_up hR hbs
  have hN0 : N ≤ w0.heap.size := by omega
  have hU1 := hUx.up hN0 hbs
  have hN1 : N ≤ w1.heap.size := by have := hbs.size; omega
  have hbw1 := below_step hbk.out hbs
  have x0 : w1.cell? ⟨xx, 0, none⟩ = some (.int .u8 (z0 : Int)) := bx_cell hX1 0 rfl
  have x1 : w1.cell? ⟨xx, 1, none⟩ = some (.int .u8 (z1 : Int)) := bx_cell hX1 1 rfl
  have lx := bx_lt hX1
  have HBD := Lib.hid (board_any z0 z1 bc nk al cl N l w1 h0 h1 HBC.out HNK.out hU1 hN1)
  clear hX hR hbx hbk hUx hbs hU1 hU HSA hX1
  go_upto_region 3 with (go_at_call 10; refine HBD.out.mono ?_; rintro e w2 ⟨an, at_, ak, ck, g, g0, g1, q, n, rfl, hn, hk, hPO, hap, hql, hqm, hb2⟩)
  obtain ⟨hb3, hG, hQ, hS3⟩ := two_boxes w2 #[.int .i64 (bc : Int), .slice an 1 1, .slice at_ 1 1, .slice ak nk ck, .int .i64 2, .bool false, .slice none 0 0, .int .i64 3, .int .i64 2] #[.slice (some ⟨g, 0, none⟩) bc bc, .slice (some ⟨g0, 0, none⟩) nk nk, .slice (some ⟨g1, 0, none⟩) nk nk, .int .i64 1, .int .i64 0] 35 27
  obtain ⟨y, hy⟩ : ∃ y, y = w2.heap.size := ⟨_, rfl⟩
  have hPO3 := hPO.upx hb3
  have hk3 := hk.below (hb3.mono hn)
  have hR3 := hp_up hR1 (below_step hb2 hb3)
  have hbw3 := below_step (below_step hbw1 hb2) hb3
  have hsz := hb2.size
  generalize (w2.alloc (.cells #[.int .i64 (bc : Int), .slice an 1 1, .slice at_ 1 1, .slice ak nk ck, .int .i64 2, .bool false, .slice none 0 0, .int .i64 3, .int .i64 2] 35)).alloc (.cells #[.slice (some ⟨g, 0, none⟩) bc bc, .slice (some ⟨g0, 0, none⟩) nk nk, .slice (some ⟨g1, 0, none⟩) nk nk, .int .i64 1, .int .i64 0] 27) = w3 at *
  simp only [← hy] at hG hQ hn hsz hS3 ⊢
  have hn9 : n ≤ w3.heap.size := by omega
  have hSG : SG w y (GB bc nk an at_ ak ck) n ak (blankK nk) w3 := ⟨hbw3, hG, hn9, hk3⟩
  clear HBD hk hPO hb2 hb3 hbw1 hbw3 hk3 x0 x1 lx hy hS3 hN0 hN1 hG hR1
  have hP3 : POwn w1.heap.size w3 (some ⟨g, 0, none⟩) (some ⟨g0, 0, none⟩) (some ⟨g1, 0, none⟩) bc nk nk (fldP nk q (l.length % 9)) := hPO3
  clear hPO3
  have hfp : PosFit (fldP nk q (l.length % 9)) := fld_fit hb64 hn3 hql
  have HCP := Lib.hid (rCopied_any (fldP nk q (l.length % 9)) (some ⟨g, 0, none⟩) (some ⟨g0, 0, none⟩) (some ⟨g1, 0, none⟩) bc nk nk w3.heap.size w3 (by unfold fldP; dsimp only; rw [zs_len]; omega) (by unfold fldP; dsimp only; rw [zs_len]; omega) (by unfold fldP; simp; omega) (by unfold fldP; simp; omega) (by unfold fldP; simp; omega) (by unfold fldP; simp; omega) (Nat.le_refl _) hP3.pin)
  rw [fld_val hql] at HCP
  go_upto_region 4 with (first | (refine wpList_load_row rfl 27 (.tmp 9) rfl (y + 1) rfl 27 _ (0, 0) _ hQ Try.underlying27 rfl info_pos ?_) | (go_at_call 23; refine HCP.out.mono ?_; rintro e w4 ⟨f, f0, f1, d, d0, d1, rfl, hF4, hfa, hb4⟩; rw [fld_val2 hql]))
  have hb5 : Below w4.heap.size w4 (w4.alloc (.cells #[.slice (some ⟨f, 0, none⟩) bc d, .slice (some ⟨f0, 0, none⟩) nk d0, .slice (some ⟨f1, 0, none⟩) nk d1, .int .i64 1, .int .i64 0] 27)) := below_alloc (Below.refl _ _) _
  have hC5 := World.alloc_heap_new w4 (.cells #[.slice (some ⟨f, 0, none⟩) bc d, .slice (some ⟨f0, 0, none⟩) nk d0, .slice (some ⟨f1, 0, none⟩) nk d1, .int .i64 1, .int .i64 0] 27)
  have hG5 := (hSG.up hb4).up hb5
  have hP5 := (hP3.upx hb4).upx hb5
  have hF5 := hF4.upx hb5
  have hQ5 := hp_up (hp_up hQ hb4) hb5
  have hR5 := hp_up (hp_up hR3 hb4) hb5
  obtain ⟨c, hc⟩ : ∃ c, c = w4.heap.size := ⟨_, rfl⟩
  have hlc := bx_lt hC5
  have hSG0 := Lib.hid (show w.heap.size + 2 ≤ w3.heap.size by have := HXX.out; have := bx_lt hR3; omega)
  have hly := bx_lt hQ
  have hlx := bx_lt hR3
  have hlg := World.ownsRow.lt hP3.cells g rfl
  have hlg0 := World.ownsRow.lt hP3.h0 g0 rfl
  have hlg1 := World.ownsRow.lt hP3.h1 g1 rfl
  have hlf := World.ownsRow.lt hF4.cells f rfl
  have hs4 := hb4.size
  generalize w4.alloc (.cells #[.slice (some ⟨f, 0, none⟩) bc d, .slice (some ⟨f0, 0, none⟩) nk d0, .slice (some ⟨f1, 0, none⟩) nk d1, .int .i64 1, .int .i64 0] 27) = w5 at *
  simp only [← hc] at hC5 hlf hs4 hlc ⊢
  clear hP3 hF4 hQ hR3 hSG hb4 hb5 HCP hc hap
  obtain ⟨A, hA⟩ : ∃ A, A = u0 % bc := ⟨_, rfl⟩
  obtain ⟨B, hB⟩ : ∃ B, B = u1 % bc := ⟨_, rfl⟩
  have hAl : A < bc := by rw [hA]; exact Nat.mod_lt _ (by omega)
  have hBl : B < bc := by rw [hB]; exact Nat.mod_lt _ (by omega)
  have hAi : (u0 : Int) % (bc : Int) = (A : Int) := by rw [hA]; rfl
  have hBi : (u1 : Int) % (bc : Int) = (B : Int) := by rw [hB]; rfl
  have HOC : OC (xx + 1) (y + 1) c g f bc d u0 u1 A B (q.getD A 0) (q.getD B 0) w5 := by
    have ha := (OwnInts.cellAt hP5.cells (j := A) (by unfold fldP; dsimp only; rw [zs_len]; omega)).1
    have hb := (OwnInts.cellAt hP5.cells (j := B) (by unfold fldP; dsimp only; rw [zs_len]; omega)).1
    unfold fldP at ha hb
    dsimp only at ha hb
    rw [zs_get] at ha hb
    exact ⟨bx_cell hR5 0 rfl, bx_cell hR5 1 rfl, bx_cell hQ5 0 rfl, bx_cell hC5 0 rfl, ha, hb⟩
  clear hA hB
  obtain ⟨qa, hqa⟩ : ∃ qa, qa = q.getD A 0 := ⟨_, rfl⟩
  obtain ⟨qb, hqb⟩ : ∃ qb, qb = q.getD B 0 := ⟨_, rfl⟩
  rw [← hqa, ← hqb] at HOC
  have HQA := Lib.hid hqa
  have HQB := Lib.hid hqb
  clear hqa hqb
  have hAI := Lib.hid hAi
  have hBI := Lib.hid hBi
  go_cut [11, 12] (fun a b wx => a = .int .i64 (A : Int) ∧ b = .int .i64 (B : Int) ∧ Below w5.heap.size w5 wx)
  case first =>
    have hd : Below w5.heap.size w5 w5.drew := (Below.refl _ _).drew
    refine wp_region_held_drew (S := OC (xx + 1) (y + 1) c g f bc d u0 u1 A B qa qb) (by kernel_rfl) (HOC.up hd) (fun hSD => ?_)
    generalize w5.drew = wD at *
    have i1 : IntKind.i64.wrap (u0 : Int) = (u0 : Int) := IntWalk.i64_in _ (by omega)
    have i2 : IntKind.i64.wrap (u1 : Int) = (u1 : Int) := IntWalk.i64_in _ (by omega)
    have i3 : ¬ (bc : Int) = 0 := by omega
    have i4 : ¬ bc = 0 := by omega
    have i5 : (u0 : Int).tmod (bc : Int) = (A : Int) := by rw [Int.tmod_eq_emod_of_nonneg (by omega)]; exact hAi
    have i6 : (u1 : Int).tmod (bc : Int) = (B : Int) := by rw [Int.tmod_eq_emod_of_nonneg (by omega)]; exact hBi
    have i7 : IntKind.i64.wrap (A : Int) = (A : Int) := IntWalk.i64_in _ (by omega)
    have i8 : IntKind.i64.wrap (B : Int) = (B : Int) := IntWalk.i64_in _ (by omega)
    refine TC 0 ?_
    (try simp only [pS])
    refine TC 1 ?_
    (try simp only [pS])
    refine TC 2 ?_
    (try simp only [pS])
    refine TC 3 ?_
    (try simp only [pS])
    refine TC 4 ?_
    (try simp only [pS])
    refine TC 5 ?_
    (try simp only [pS])
    refine TC 6 ?_
    (try simp only [pS])
    refine TC 7 ?_
    (try simp only [pS])
    refine TC 8 ?_
    (try simp only [pS])
    refine TC 9 ?_
    (try simp only [pS])
    refine TC 10 ?_
    (try simp only [pS])
    refine TC 11 ?_
    (try simp only [pS])
    refine TC 12 ?_
    (try simp only [pS])
    refine TC 13 ?_
    (try simp only [pS])
    refine TC 14 ?_
    (try simp only [pS])
    refine TC 15 ?_
    (try simp only [pS])
    refine wpAnyH_done (by kernel_rfl) ?_ _
    go_wp2_with fail
    go_meet
    case rel => exact ⟨rfl, rfl, hd⟩
  case rest =>
    obtain ⟨rfl, rfl, hb6⟩ := hcut
    generalize wc = w6 at *
    have hG6 := hG5.up hb6
    have hP6 := hP5.upx hb6
    have hF6 := hF5.upx hb6
    have hQ6 := hp_up hQ5 hb6
    have hC6 := hp_up hC5 hb6
    have HOC6 := HOC.up hb6
    have hlc6 : c < w6.heap.size := Nat.lt_of_lt_of_le hlc hb6.size
    clear hG5 hP5 hF5 hQ5 hC5 HOC hb6 hR5
    have HP := Lib.hid hP6
    go_upto_region 5 with (fail)
    go_cut [11, 12] (fun a b wx => a = .int .i64 (A : Int) ∧ b = .int .i64 (B : Int) ∧ SG w y (GB bc nk an at_ ak ck) n ak (blankK nk) wx ∧ POwn w1.heap.size wx (some ⟨g, 0, none⟩) (some ⟨g0, 0, none⟩) (some ⟨g1, 0, none⟩) bc nk nk (fldP nk q (l.length % 9)) ∧
      POwn w3.heap.size wx (some ⟨f, 0, none⟩) (some ⟨f0, 0, none⟩) (some ⟨f1, 0, none⟩) d d0 d1 (fldP nk (swapN q A B) (l.length % 9)) ∧ wx.heap[y + 1]? = some (.cells #[.slice (some ⟨g, 0, none⟩) bc bc, .slice (some ⟨g0, 0, none⟩) nk nk, .slice (some ⟨g1, 0, none⟩) nk nk, .int .i64 1, .int .i64 0] 27 (0, 0)) ∧ wx.heap[c]? = some (.cells #[.slice (some ⟨f, 0, none⟩) bc d, .slice (some ⟨f0, 0, none⟩) nk d0, .slice (some ⟨f1, 0, none⟩) nk d1, .int .i64 1, .int .i64 0] 27 (0, 0)))
    case first =>
      have hd : Below w6.heap.size w6 w6.drew := (Below.refl _ _).drew
      have hGd := hG6.up hd
      have hPd := hP6.upx hd
      have hFd := hF6.upx hd
      have hQd := hp_up hQ6 hd
      have hCd := hp_up hC6 hd
      have hlcd : c < w6.drew.heap.size := Nat.lt_of_lt_of_le hlc6 hd.size
      refine wp_region_held_drew (S := OC (xx + 1) (y + 1) c g f bc d u0 u1 A B qa qb) (by kernel_rfl) (HOC6.up hd) (fun hSD => ?_)
      generalize w6.drew = wD at *
      clear hd hG6 hP6 hF6 hQ6 hC6 HOC6 hlc6
      have t1 : (0 : Int) ≤ (A : Int) := by omega
      have t2 : (A : Int) < (bc : Int) := by omega
      have t3 : (0 : Int) ≤ (B : Int) := by omega
      have t4 : (B : Int) < (bc : Int) := by omega
      refine TC 0 ?_
      (try simp only [pS])
      refine TC 1 ?_
      (try simp only [pS])
      refine TC 2 ?_
      (try simp only [pS])
      refine TC 3 ?_
      (try simp only [pS])
      refine TC 4 ?_
      (try simp only [pS])
      refine TC 5 ?_
      (try simp only [pS])
      refine TC 6 ?_
      (try simp only [pS])
      refine TC 7 ?_
      (try simp only [pS])
      refine TC 8 ?_
      (try simp only [pS])
      refine TC 9 ?_
      (try simp only [pS])
      refine TC 10 ?_
      (try simp only [pS])
      refine TC 11 ?_
      (try simp only [pS])
      refine TC 12 ?_
      (try simp only [pS])
      refine TC 13 ?_
      (try simp only [pS])
      refine TC 14 ?_
      (try simp only [pS])
      refine TC 15 ?_
      (try simp only [pS])
      refine TC 16 ?_
      (try simp only [pS])
      refine wpAnyH_ready (rs := [17]) (by kernel_rfl) (by simp) ?_
      obtain ⟨ca, fa⟩ := OwnInts.cellAt hFd.cells (j := A) (by unfold fldP; dsimp only; rw [zs_len]; omega)
      have hF1 := OwnInts.set hFd.cells A (qb : Int)
      obtain ⟨cb, fb⟩ := OwnInts.cellAt hF1 (j := B) (by unfold fldP; dsimp only; rw [List.length_set, zs_len]; omega)
      have n1 : ¬ xx + 1 = f := by omega
      have n2 : ¬ y + 1 = f := by omega
      have n3 : ¬ c = f := by omega
      have n4 : ¬ g = f := by omega
      have HR := Lib.hid (show SG w y (GB bc nk an at_ ak ck) n ak (blankK nk) ((wD.setCell ⟨f, A, none⟩ (.int .i64 (qb : Int))).setCell ⟨f, B, none⟩ (.int .i64 (qa : Int))) ∧ POwn w1.heap.size ((wD.setCell ⟨f, A, none⟩ (.int .i64 (qb : Int))).setCell ⟨f, B, none⟩ (.int .i64 (qa : Int))) (some ⟨g, 0, none⟩) (some ⟨g0, 0, none⟩) (some ⟨g1, 0, none⟩) bc nk nk (fldP nk q (l.length % 9)) ∧
        POwn w3.heap.size ((wD.setCell ⟨f, A, none⟩ (.int .i64 (qb : Int))).setCell ⟨f, B, none⟩ (.int .i64 (qa : Int))) (some ⟨f, 0, none⟩) (some ⟨f0, 0, none⟩) (some ⟨f1, 0, none⟩) d d0 d1 (fldP nk (swapN q A B) (l.length % 9)) ∧ ((wD.setCell ⟨f, A, none⟩ (.int .i64 (qb : Int))).setCell ⟨f, B, none⟩ (.int .i64 (qa : Int))).heap[y + 1]? = some (.cells #[.slice (some ⟨g, 0, none⟩) bc bc, .slice (some ⟨g0, 0, none⟩) nk nk, .slice (some ⟨g1, 0, none⟩) nk nk, .int .i64 1, .int .i64 0] 27 (0, 0)) ∧ ((wD.setCell ⟨f, A, none⟩ (.int .i64 (qb : Int))).setCell ⟨f, B, none⟩ (.int .i64 (qa : Int))).heap[c]? = some (.cells #[.slice (some ⟨f, 0, none⟩) bc d, .slice (some ⟨f0, 0, none⟩) nk d0, .slice (some ⟨f1, 0, none⟩) nk d1, .int .i64 1, .int .i64 0] 27 (0, 0)) from
        ⟨(hGd.cell (by have := hGd.b.size; have := hSG0.out; omega) (by omega) (by omega)).cell (by have := hSG0.out; omega) (by omega) (by omega), (hPd.cell n4 (by omega) (by omega)).cell n4 (by omega) (by omega), (by rw [HQA.out, HQB.out]; exact hFd.swap hfa.1 hfa.2.1), box_far (box_far hQd n2) n2, box_far (box_far hCd n3) n3⟩)
      clear hGd hPd hFd hQd hCd hF1
      refine AC (i := 17) (fun K hK => ?_) AllReadyH.nil
      go_simp
      refine hK.out _ _ (hSD.far n1 n2 n3 n4) (fun _ => ?_)
      clear hK K
      have hSD1 := hSD.far (j := A) (v := .int .i64 (qb : Int)) n1 n2 n3 n4
      generalize wD.setCell ⟨f, A, none⟩ (.int .i64 (qb : Int)) = wE at *
      refine TC 18 ?_
      (try simp only [pS])
      refine wpAnyH_ready (rs := [19]) (by kernel_rfl) (by simp) ?_
      refine AC (i := 19) (fun K hK => ?_) AllReadyH.nil
      go_simp
      refine hK.out _ _ (hSD1.far n1 n2 n3 n4) (fun _ => ?_)
      clear hK K
      refine wpAnyH_done (by kernel_rfl) ?_ _
      go_wp2_with fail
      go_meet
      case rel => exact ⟨rfl, rfl, HR.out⟩
    case rest =>
      obtain ⟨rfl, rfl, hG, hP, hF, hQ, hC⟩ := hcut
      generalize wc = w7 at *
      clear hG6 hP6 hF6 hQ6 hC6 HOC6 hlc6 HP
      have hop := order_pure (h := l.length % 9) hn1 (by omega) hql hAl hBl hqm
      have hl2 : (swapN q A B).length = bc := by rw [swapN_len]; exact hql
      have hf2 : PosFit (fldP nk (swapN q A B) (l.length % 9)) := fld_fit hb64 hn3 hl2
      obtain ⟨rn, re, hrv⟩ : ∃ rn re, rankV bc 2 (blankK nk) (fldP nk q (l.length % 9)) = (rn, re) := ⟨_, _, rfl⟩
      obtain ⟨kn, ke, hkv⟩ : ∃ kn ke, rankV bc 2 (blankK nk) (fldP nk (swapN q A B) (l.length % 9)) = (kn, ke) := ⟨_, _, rfl⟩
      rw [hrv, hkv] at hop
      have HOP := Lib.hid hop
      have HRV := Lib.hid hrv
      have HKV := Lib.hid hkv
      have HFP := Lib.hid hfp
      have HF2 := Lib.hid hf2
      have HL2 := Lib.hid hl2
      clear hop hrv hkv hf2 hl2 hfp
      have hgx := hG.hg
      have HR := Lib.hid (rankG hb64 hn1 hn3 hG (c := bc) (c0 := nk) (c1 := nk) HFP.out hP.pin)
      rw [HRV.out, fld_val hql] at HR
      go_upto_region 7 with (first | (refine wpList_load_row rfl 35 (.tmp 8) rfl y rfl 35 _ (0, 0) _ hgx Try.underlying35 rfl info_game ?_) | (refine wpList_load_row rfl 27 (.tmp 9) rfl (y + 1) rfl 27 _ (0, 0) _ hQ Try.underlying27 rfl info_pos ?_) | (refine wpList_load_row rfl 27 (.tmp 10) rfl c rfl 27 _ (0, 0) _ hC Try.underlying27 rfl info_pos ?_) | (go_at_call 21; refine HR.out.mono ?_; rintro e w8 ⟨rfl, hb8⟩))
      replace hG := hG.up hb8
      replace hP := hP.upx hb8
      replace hF := hF.upx hb8
      replace hQ := hp_up hQ hb8
      replace hC := hp_up hC hb8
      replace hgx := hG.hg
      have HK := Lib.hid (rankG hb64 hn1 hn3 hG (c := d) (c0 := d0) (c1 := d1) HF2.out hF.pin)
      rw [HKV.out, fld_val2 HL2.out] at HK
      clear HR hb8
      go_upto_region 8 with (first | (refine wpList_load_row rfl 35 (.tmp 8) rfl y rfl 35 _ (0, 0) _ hgx Try.underlying35 rfl info_game ?_) | (refine wpList_load_row rfl 27 (.tmp 9) rfl (y + 1) rfl 27 _ (0, 0) _ hQ Try.underlying27 rfl info_pos ?_) | (refine wpList_load_row rfl 27 (.tmp 10) rfl c rfl 27 _ (0, 0) _ hC Try.underlying27 rfl info_pos ?_) | (go_at_call 21; refine HK.out.mono ?_; rintro e w9 ⟨rfl, hb9⟩))
      replace hG := hG.up hb9
      replace hP := hP.upx hb9
      replace hF := hF.upx hb9
      replace hQ := hp_up hQ hb9
      replace hC := hp_up hC hb9
      replace hgx := hG.hg
      clear HK hb9
      rcases HOP.out with ⟨i, k, cc, e1, e2, hcc, o1, o2⟩ | ⟨e1, e2⟩
      · cases e1
        cases e2
        have HCM := Lib.hid (rcompare_any ⟨(fldP nk q (l.length % 9)), some ⟨g, 0, none⟩, some ⟨g0, 0, none⟩, some ⟨g1, 0, none⟩, bc, nk, nk⟩ ⟨fldP nk (swapN q A B) (l.length % 9), some ⟨f, 0, none⟩, some ⟨f0, 0, none⟩, some ⟨f1, 0, none⟩, d, d0, d1⟩ w9.heap.size w9 ⟨HFP.out, hP.pin⟩ ⟨HF2.out, hF.pin⟩ (Nat.le_refl _))
        have hrng := cmpP_ok.rng (fldP nk q (l.length % 9)) (fldP nk (swapN q A B) (l.length % 9))
        unfold PosA.val at HCM
        rw [fld_val2 hql, fld_val2 HL2.out, hcc] at HCM
        rw [hcc] at hrng
        clear HOP HRV HKV hcc
        have hb9 := hG.b
        rcases hrng with rfl | rfl | rfl
        · have j1 : rn < kn := o1.2 (by omega)
          have j2 : ¬ rn = kn := by omega
          have j3 : (rn : Int) < (kn : Int) := by omega
          have j4 : ¬ (rn : Int) = (kn : Int) := by omega
          have j5 : ((rn : Int) == (kn : Int)) = false := by rw [beq_eq_false_iff_ne]; exact j4
          go_wp2_with (first | (refine wpList_load_row rfl 35 (.tmp 8) rfl y rfl 35 _ (0, 0) _ hgx Try.underlying35 rfl info_game ?_) | (refine wpList_load_row rfl 27 (.tmp 9) rfl (y + 1) rfl 27 _ (0, 0) _ hQ Try.underlying27 rfl info_pos ?_) | (refine wpList_load_row rfl 27 (.tmp 10) rfl c rfl 27 _ (0, 0) _ hC Try.underlying27 rfl info_pos ?_) | (go_at_call 20; refine HCM.out.mono ?_; rintro e w10 ⟨rfl, hb10⟩))
          go_ret
          exact ⟨rfl, below_step hb9 hb10⟩
        · have j2 : rn = kn := o2.2 rfl
          subst j2
          go_wp2_with (first | (refine wpList_load_row rfl 35 (.tmp 8) rfl y rfl 35 _ (0, 0) _ hgx Try.underlying35 rfl info_game ?_) | (refine wpList_load_row rfl 27 (.tmp 9) rfl (y + 1) rfl 27 _ (0, 0) _ hQ Try.underlying27 rfl info_pos ?_) | (refine wpList_load_row rfl 27 (.tmp 10) rfl c rfl 27 _ (0, 0) _ hC Try.underlying27 rfl info_pos ?_) | (go_at_call 20; refine HCM.out.mono ?_; rintro e w10 ⟨rfl, hb10⟩))
          go_ret
          exact ⟨rfl, below_step hb9 hb10⟩
        · have j1 : ¬ rn < kn := fun h => by have := o1.1 h; omega
          have j2 : ¬ rn = kn := fun h => by have := o2.1 h; omega
          have j3 : ¬ (rn : Int) < (kn : Int) := by omega
          have j4 : ¬ (rn : Int) = (kn : Int) := by omega
          have j5 : ((rn : Int) == (kn : Int)) = false := by rw [beq_eq_false_iff_ne]; exact j4
          go_wp2_with (first | (refine wpList_load_row rfl 35 (.tmp 8) rfl y rfl 35 _ (0, 0) _ hgx Try.underlying35 rfl info_game ?_) | (refine wpList_load_row rfl 27 (.tmp 9) rfl (y + 1) rfl 27 _ (0, 0) _ hQ Try.underlying27 rfl info_pos ?_) | (refine wpList_load_row rfl 27 (.tmp 10) rfl c rfl 27 _ (0, 0) _ hC Try.underlying27 rfl info_pos ?_) | (go_at_call 20; refine HCM.out.mono ?_; rintro e w10 ⟨rfl, hb10⟩))
          go_ret
          exact ⟨rfl, below_step hb9 hb10⟩
      · cases e1
        cases e2
        go_wp2
        go_ret
        exact ⟨rfl, hG.b⟩
end Go.Proofs.Ytepbmgbomdekaaa
