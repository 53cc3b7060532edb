/-
  IndexAll.
-/
import Derived.Test.YtepbmgbomdekaaaXRks
import Derived.Test.YtepbmgbomdekaaaXAlM
import Derived.Test.YtepbmgbomdekaaaXAtO
import Derived.Test.YtepbmgbomdekaaaXPs
import Derived.Test.YtepbmgbomdekaaaPRVa
namespace Go.Proofs.Ytepbmgbomdekaaa
open Go Go.RowKit

/-- The positions of a list that is being made: their lists are the call's own. -/
def AllO (W : World) (L : List PosA) : Prop := ∀ x ∈ L, PosFit x.p ∧ POwn 0 W x.a x.a0 x.a1 x.c x.c0 x.c1 x.p
theorem AllO.up {W W' : World} {L : List PosA} (h : AllO W L) (hb : Below W.heap.size W W') : AllO W' L := fun x hx => ⟨(h x hx).1, (h x hx).2.upx hb⟩
theorem OwnPs.block {n E k cap : Nat} {W : World} {L : List PosA} (h : OwnPs n W (.slice (some ⟨E, 0, none⟩) k cap) L) : ∃ cur, W.heap[E]? = some (.cells cur 27 (0, 0)) := by
  rcases h.2 with ⟨h0, _⟩ | ⟨g', cap', cur, hv, _, hc, _⟩
  · cases h0
  · cases hv; exact ⟨cur, hc⟩
theorem AllO.grow {n E k cap : Nat} {W W' : World} {L M : List PosA} (h : AllO W M) (ho : OwnPs n W (.slice (some ⟨E, 0, none⟩) k cap) L) (hg : W.grownBy W' (some E)) : AllO W' M := by
  obtain ⟨cur, hc⟩ := ho.block
  have key : ∀ {v : Value} {l : List Int}, OwnInts 0 W v l → OwnInts 0 W' v l := fun hv => hv.alters (Alters.of_grown hg) (fun k hk => by have e : k = E := Option.some.inj hk; rw [e]; exact own_ne hv hc (by decide))
  exact fun x hx => ⟨(h x hx).1, key (h x hx).2.cells, key (h x hx).2.h0, key (h x hx).2.h1⟩
theorem AllO.ok {W : World} {L : List PosA} (h : AllO W L) : ∀ x ∈ L, AOk W.heap.size W x := fun x hx => ⟨(h x hx).1, (h x hx).2.pin⟩
theorem POwn.base {n : Nat} {W : World} {a a0 a1 : Option Addr} {d d0 d1 : Nat} {p : PosS} (h : POwn n W a a0 a1 d d0 d1 p) : POwn 0 W a a0 a1 d d0 d1 p := ⟨OwnInts.mono h.cells (Nat.zero_le _), OwnInts.mono h.h0 (Nat.zero_le _), OwnInts.mono h.h1 (Nat.zero_le _)⟩
/-- Three boxes. -/
structure AS (y t mb : Nat) (G Y M : List Value) (W : World) : Prop where
  hg : W.heap[y]? = some (.cells G.toArray 35 (0, 0))
  hq : W.heap[t]? = some (.cells Y.toArray 27 (0, 0))
  hm : W.heap[mb]? = some (.cells M.toArray 39 (0, 0))
theorem AS.up {y t mb : Nat} {G Y M : List Value} {W W' : World} (h : AS y t mb G Y M W) (hb : Below W.heap.size W W') : AS y t mb G Y M W' := ⟨hp_up h.hg hb, hp_up h.hq hb, hp_up h.hm hb⟩
theorem atO {w : World} {g N bc nk : Nat} {an at_ ak : Option Addr} {ck : Nat} {W : World} (hbc : bc ≤ 64) (hk1 : 1 ≤ nk) (h3 : nk ≤ 3) (h : SG w g (GB bc nk an at_ ak ck) N ak (blankK nk) W) {x x0 x1 : Option Addr} {c c0 c1 : Nat} {p : PosS} (hf : PosFit p) (hP : PosIn W.heap.size W x x0 x1 p) (i : Int) :
    Calls Try.prog 18 #[.agg #[.int .i64 (bc : Int), .slice an 1 1, .slice at_ 1 1, .slice ak nk ck, .int .i64 2, .bool false, .slice none 0 0, .int .i64 3, .int .i64 2], PosV x x0 x1 c c0 c1 p, .int .i64 i] W fun e w' => ∃ a a0 a1 d d0 d1, e = .returned (.tuple #[PosV a a0 a1 d d0 d1 (atV bc 2 (blankK nk) p i).1, .int .i64 (((atV bc 2 (blankK nk) p i).2 : Nat) : Int)]) ∧ POwn W.heap.size w' a a0 a1 d d0 d1 (atV bc 2 (blankK nk) p i).1 ∧ Below W.heap.size W w' := by
  have h1 := at_own bc 2 (blankK nk) (.slice an 1 1) (.slice at_ 1 1) (.bool false) (.slice none 0 0) (.int .i64 3) (.int .i64 2) p i ak x x0 x1 ck c c0 c1 W.heap.size W hbc (by omega) (by rw [blankK_len]; omega) (by rw [blankK_len]; omega) hf (Nat.le_refl _) hP h.kp
  rw [blankK_len] at h1
  exact h1
theorem validG {w : World} {g N bc nk : Nat} {an at_ ak : Option Addr} {ck : Nat} {W : World} (h3 : nk ≤ 3) (h : SG w g (GB bc nk an at_ ak ck) N ak (blankK nk) W) {x x0 x1 : Option Addr} {c c0 c1 : Nat} {p : PosS} (hf : PosFit p) (hP : PosIn W.heap.size W x x0 x1 p) :
    Calls Try.prog 26 #[.agg #[.int .i64 (bc : Int), .slice an 1 1, .slice at_ 1 1, .slice ak nk ck, .int .i64 2, .bool false, .slice none 0 0, .int .i64 3, .int .i64 2], PosV x x0 x1 c c0 c1 p] W fun e w' => e = .returned (.bool (posB bc 2 (blankK nk) p)) ∧ Below W.heap.size W w' := by
  have h1 := rvalid_any bc 2 (blankK nk) (.slice an 1 1) (.slice at_ 1 1) (.bool false) (.slice none 0 0) (.int .i64 3) (.int .i64 2) p ak x x0 x1 ck c c0 c1 W.heap.size W (by omega) (by rw [blankK_len]; omega) hf (Nat.le_refl _) hP h.kp
  rw [blankK_len] at h1
  exact h1
theorem info_posC : (Try.prog.info? 27).map (fun i => (i.zero, i.size, i.bytes)) = some (some (.agg #[.slice none 0 0, .slice none 0 0, .slice none 0 0, .int .i64 0, .int .i64 0]), 5, 88) := by kernel_rfl
theorem fld_enc {bc nk h : Nat} {q : List Nat} (hl : q.length = bc) (a a0 a1 : Option Addr) (d d0 d1 : Nat) : PosA.enc ⟨fldP nk q h, a, a0, a1, d, d0, d1⟩ = [.slice a bc d, .slice a0 nk d0, .slice a1 nk d1, .int .i64 1, .int .i64 0] := by
  unfold PosA.enc fldP
  dsimp only
  rw [zs_len, hl, List.length_replicate, List.length_set, List.length_replicate]
theorem AllO.snoc {W : World} {L : List PosA} {x : PosA} (h : AllO W L) (hf : PosFit x.p) (ho : POwn 0 W x.a x.a0 x.a1 x.c x.c0 x.c1 x.p) : AllO W (L ++ [x]) := by
  intro y hy
  rcases List.mem_append.1 hy with hy | hy
  · exact h y hy
  · rw [List.mem_singleton] at hy; subst hy; exact ⟨hf, ho⟩
theorem range_snoc {α : Type} (f : Nat → α) (k : Nat) : (List.range (k + 1)).map f = (List.range k).map f ++ [f k] := by rw [List.range_succ, List.map_append]; rfl
set_option maxRecDepth 100000 in
set_option maxHeartbeats 8000000 in
theorem all_any (z0 z1 : Nat) (al : Option Addr) (cl N : Nat) (l : List Nat) (w : World) (h0 : z0 ≤ 255) (h1 : z1 ≤ 255) (hU : U8s N w al l) (hN : N ≤ w.heap.size) :
    Calls Try.prog 6 #[.agg #[.int .u8 (z0 : Int), .int .u8 (z1 : Int)], .slice al l.length cl] w fun e w' => e = .returned (.bool true) ∧ Below w.heap.size w w' := by
  obtain ⟨nk, hnk⟩ : ∃ nk, nk = 1 + z1 % 2 := ⟨_, rfl⟩
  obtain ⟨sp, hsp⟩ : ∃ sp, sp = 8 - 2 * nk := ⟨_, rfl⟩
  obtain ⟨bc, hbc⟩ : ∃ bc, bc = 1 + z0 % sp := ⟨_, rfl⟩
  have hsp1 : 1 ≤ sp := by omega
  have hmod := Nat.mod_lt z0 hsp1
  have hcase : (nk = 1 ∧ bc ≤ 6) ∨ (nk = 2 ∧ bc ≤ 4) := by omega
  have hb64 : bc ≤ 64 := by omega
  have hb1 : 1 ≤ bc := by omega
  have hn1 : 1 ≤ nk := by omega
  have hn3 : nk ≤ 3 := by omega
  have HCS := Lib.hid hcase
  have HSA := Lib.hid (fun W => sanity_any W)
  have hX := World.alloc_heap_new w (.cells #[.int .u8 (z0 : Int), .int .u8 (z1 : Int)] 22)
  have hbx : Below w.heap.size w (w.alloc (.cells #[.int .u8 (z0 : Int), .int .u8 (z1 : Int)] 22)) := below_alloc (Below.refl _ _) _
  have hUx := hU.up hN hbx
  have e1 : (1 : Int) + (z1 : Int) % 2 = (nk : Int) := by rw [hnk]; omega
  have e2 : (8 : Int) - 2 * (nk : Int) = (sp : Int) := by omega
  have e3 : (1 : Int) + (z0 : Int) % (sp : Int) = (bc : Int) := by rw [hbc]; simp
  have i1 : IntKind.i64.wrap (2 * (nk : Int)) = 2 * (nk : Int) := IntWalk.i64_in _ (by omega)
  have i2 : IntKind.i64.wrap (sp : Int) = (sp : Int) := IntWalk.i64_in _ (by omega)
  have i3 : ¬ sp = 0 := by omega
  have i4 : IntKind.i64.wrap (z0 : Int) = (z0 : Int) := IntWalk.i64_in _ (by omega)
  have i5 : IntKind.i64.wrap (bc : Int) = (bc : Int) := IntWalk.i64_in _ (by omega)
  have i6 : IntKind.i64.wrap (nk : Int) = (nk : Int) := IntWalk.i64_in _ (by omega)
  have i8 : IntKind.i64.wrap (z1 : Int) = (z1 : Int) := IntWalk.i64_in _ (by omega)
  have i7 : IntKind.i64.wrap ((z0 : Int) % (sp : Int)) = (z0 : Int) % (sp : Int) := IntWalk.i64_in _ (by omega)
  clear hcase hsp hbc hmod hsp1 hnk
  go_enter Try.func6, Try.ntmps6
  go_upto_region 1 with (fail)
  generalize w.alloc (.cells #[.int .u8 (z0 : Int), .int .u8 (z1 : Int)] 22) = w0 at *
  go_upto_region 2 with (go_at_call 9; refine (HSA.out _).mono ?_; rintro e w1 ⟨rfl, hbs⟩)
  have hX1 := hp_up hX hbs
  have hN0 : N ≤ w0.heap.size := by have := hbx.size; omega
  have hU1 := hUx.up hN0 hbs
  have hN1 : N ≤ w1.heap.size := by have := hbs.size; omega
  have hbw1 := below_step hbx hbs
  have x0 : w1.cell? ⟨w.heap.size, 0, none⟩ = some (.int .u8 (z0 : Int)) := bx_cell hX1 0 rfl
  have x1 : w1.cell? ⟨w.heap.size, 1, none⟩ = some (.int .u8 (z1 : Int)) := bx_cell hX1 1 rfl
  have lx := bx_lt hX1
  have HBL := Lib.hid (blank_any bc nk w1 hb64 hn1 hn3)
  clear hX hbx hUx hbs hU HSA hX1
  go_upto_region 4 with (go_at_call 24; refine HBL.out.mono ?_; rintro e w2 ⟨an, at_, ak, ck, rfl, hk2, hb2⟩)
  have hU2 := hU1.up hN1 hb2
  have hN2 : N ≤ w2.heap.size := by have := hb2.size; omega
  have hSG2 := SG.made (bc := bc) (nk := nk) (an := an) (at_ := at_) (ak := ak) (ck := ck) (below_step hbw1 hb2) hk2
  have hb3 : Below w2.heap.size w2 (w2.alloc (.cells #[.int .i64 (bc : Int), .slice an 1 1, .slice at_ 1 1, .slice ak nk ck, .int .i64 2, .bool false, .slice none 0 0, .int .i64 3, .int .i64 2] 35)) := below_alloc (Below.refl _ _) _
  have hU3 := hU2.up hN2 hb3
  obtain ⟨y, hy⟩ : ∃ y, y = w2.heap.size := ⟨_, rfl⟩
  generalize w2.alloc (.cells #[.int .i64 (bc : Int), .slice an 1 1, .slice at_ 1 1, .slice ak nk ck, .int .i64 2, .bool false, .slice none 0 0, .int .i64 3, .int .i64 2] 35) = w3 at *
  simp only [← hy] at hSG2 hN2 hb3 ⊢
  have hN3 : N ≤ w3.heap.size := by have := hb3.size; have := hSG2.hn; omega
  clear HBL hk2 hb2 hbw1 hb3 hU1 hU2 x0 x1 lx hy hN0 hN1 hN2 e1 e2 e3 i1 i2 i3 i4 i5 i6 i7 i8
  have hgx := hSG2.hg
  have HF := Lib.hid (filled_any bc nk an at_ ak al ck cl N l w3 hb64 hn1 hn3 hU3 hN3)
  go_upto_region 5 with (first | (refine wpList_load_row rfl 35 (.tmp 7) rfl y rfl 35 _ (0, 0) _ hgx Try.underlying35 rfl info_game ?_) | (go_at_call 25; refine HF.out.mono ?_; rintro e w4 ⟨g, g0, g1, q, rfl, hPO, hap, hql, hqm, hb4⟩; unfold PosV; dsimp only; rw [zs_len, hql, List.length_replicate, List.length_set, List.length_replicate]))
  have hP4 : POwn w3.heap.size w4 (some ⟨g, 0, none⟩) (some ⟨g0, 0, none⟩) (some ⟨g1, 0, none⟩) bc nk nk (fldP nk q (l.length % 9)) := hPO
  have hb5 : Below w4.heap.size w4 (w4.alloc (.cells #[.slice (some ⟨g, 0, none⟩) bc bc, .slice (some ⟨g0, 0, none⟩) nk nk, .slice (some ⟨g1, 0, none⟩) nk nk, .int .i64 1, .int .i64 0] 27)) := below_alloc (Below.refl _ _) _
  have hQ := World.alloc_heap_new w4 (.cells #[.slice (some ⟨g, 0, none⟩) bc bc, .slice (some ⟨g0, 0, none⟩) nk nk, .slice (some ⟨g1, 0, none⟩) nk nk, .int .i64 1, .int .i64 0] 27)
  have hG5 := (hSG2.up hb4).up hb5
  have hP5 := hP4.upx hb5
  obtain ⟨pb, hpb⟩ : ∃ pb, pb = w4.heap.size := ⟨_, rfl⟩
  generalize w4.alloc (.cells #[.slice (some ⟨g, 0, none⟩) bc bc, .slice (some ⟨g0, 0, none⟩) nk nk, .slice (some ⟨g1, 0, none⟩) nk nk, .int .i64 1, .int .i64 0] 27) = w5 at *
  simp only [← hpb] at hQ ⊢
  clear HF hU3 hN3 hPO hP4 hb4 hb5 hSG2 hpb hgx
  obtain ⟨m, hm⟩ : ∃ m, m = 2 * nk + 1 := ⟨_, rfl⟩
  rw [← hm] at hqm
  have HMM := Lib.hid hm
  have hm13 : m ≤ 7 := by omega
  clear hm
  have hgx := hG5.hg
  have HOR := Lib.hid (rof_any (.int .i64 (bc : Int)) (.slice an 1 1) (.slice at_ 1 1) (.int .i64 2) (.bool false) (.slice none 0 0) (.int .i64 3) (.int .i64 2) (fldP nk q (l.length % 9)) q ak (some ⟨g, 0, none⟩) (some ⟨g0, 0, none⟩) (some ⟨g1, 0, none⟩) nk ck bc nk nk w5.heap.size m w5 (by omega) HMM.out rfl (by omega) (by omega) hqm (by unfold fldP; simp; omega) (by unfold fldP; simp; omega) (by unfold fldP; simp; omega) (by unfold fldP; simp; omega) (Nat.le_refl _) hP5.pin)
  rw [fld_val hql] at HOR
  go_upto_region 6 with (first | (refine wpList_load_row rfl 35 (.tmp 7) rfl y rfl 35 _ (0, 0) _ hgx Try.underlying35 rfl info_game ?_) | (refine wpList_load_row rfl 27 (.tmp 8) rfl pb rfl 27 _ (0, 0) _ hQ Try.underlying27 rfl info_pos ?_) | (go_at_call 13; refine HOR.out.mono ?_; rintro e w6 ⟨ma, ma0, ma1, md, md0, md1, rfl, hM6, hb6⟩; rw [mat_val]))
  have hb7 : Below w6.heap.size w6 (w6.alloc (.cells #[.slice ma m md, .slice ma0 nk md0, .slice ma1 nk md1, .int .i64 1, .int .i64 0] 39)) := below_alloc (Below.refl _ _) _
  have hM := World.alloc_heap_new w6 (.cells #[.slice ma m md, .slice ma0 nk md0, .slice ma1 nk md1, .int .i64 1, .int .i64 0] 39)
  have hG7 := (hG5.up hb6).up hb7
  have hP7 := (hP5.upx hb6).upx hb7
  have hM7 := hM6.upx hb7
  replace hQ := hp_up (hp_up hQ hb6) hb7
  obtain ⟨mb, hmb⟩ : ∃ mb, mb = w6.heap.size := ⟨_, rfl⟩
  generalize w6.alloc (.cells #[.slice ma m md, .slice ma0 nk md0, .slice ma1 nk md1, .int .i64 1, .int .i64 0] 39) = w7 at *
  simp only [← hmb] at hM ⊢
  clear HOR hG5 hP5 hM6 hb6 hb7 hmb hgx
  have hwy := all_ways hql (by rw [← HMM.out]; exact hqm) HCS.out
  have hpu := all_at (h := l.length % 9) hn1 (by omega) hql (by rw [← HMM.out]; exact hqm) hwy.2
  rw [← HMM.out] at hpu hwy
  have hfm : PosFit (matS m q (fldP nk q (l.length % 9))) := by rw [HMM.out]; exact mat_fit hn3
  have hfp : PosFit (fldP nk q (l.length % 9)) := fld_fit hb64 hn3 hql
  have HZ := Lib.hid (sizeG hb64 hn3 hG7 (c := md) (c0 := md0) (c1 := md1) hfm hM7.pin)
  rw [hpu.1, mat_val] at HZ
  obtain ⟨hw1, hw2⟩ := hwy
  obtain ⟨n, hn⟩ : ∃ n, n = ways (countN m q) := ⟨_, rfl⟩
  rw [← hn] at hpu HZ hw1 hw2
  have HNN := Lib.hid hn
  have HPU := Lib.hid hpu.2
  have HFM := Lib.hid hfm
  have HFP := Lib.hid hfp
  clear hpu hfm hfp hn
  have t1 : ¬ (n : Int) < 1 := by omega
  have t2 : ¬ (100 : Int) < (n : Int) := by omega
  have hgx := hG7.hg
  go_upto_region 7 with (first | (refine wpList_load_row rfl 35 (.tmp 7) rfl y rfl 35 _ (0, 0) _ hgx Try.underlying35 rfl info_game ?_) | (refine wpList_load_row rfl 39 (.tmp 9) rfl mb rfl 39 _ (0, 0) _ hM Try.underlying39 rfl info_mat ?_) | (go_at_call 14; refine HZ.out.mono ?_; rintro e w8 ⟨rfl, hb8⟩))
  replace hG7 := hG7.up hb8
  replace hP7 := hP7.upx hb8
  replace hM7 := hM7.upx hb8
  replace hQ := hp_up hQ hb8
  replace hM := hp_up hM hb8
  replace hgx := hG7.hg
  clear HZ hb8
  go_upto_region 9 with (fail)
  go_upto_region 10 with (fail)
  have hb9 : Below w8.heap.size w8 (w8.alloc (.cells #[] 27)) := below_alloc (Below.refl _ _) _
  have hO9 : OwnPs w8.heap.size (w8.alloc (.cells #[] 27)) (.slice (some ⟨w8.heap.size, 0, none⟩) 0 0) [] :=
    ⟨rfl, .inr ⟨w8.heap.size, 0, #[], rfl, Nat.le_refl _, World.alloc_heap_new _ _, Nat.le_refl _, by omega, rfl, rfl⟩⟩
  have HO9 := Lib.hid hO9
  have HB9 := Lib.hid hb9
  generalize w8.alloc (.cells #[] 27) = w9 at *
  obtain ⟨b8, h8⟩ : ∃ b8, b8 = w8.heap.size := ⟨_, rfl⟩
  have H8 := Lib.hid h8
  simp only [← h8] at HO9 HB9 ⊢
  have HG := Lib.hid (fun W (hb : Below b8 w8 W) => hG7.up (h8 ▸ hb))
  have HM := Lib.hid (fun W (hb : Below b8 w8 W) => hM7.upx (h8 ▸ hb))
  have HP := Lib.hid (fun W (hb : Below b8 w8 W) => hP7.upx (h8 ▸ hb))
  have HQB := Lib.hid (fun W (hb : Below b8 w8 W) => hp_up hQ (h8 ▸ hb))
  have HMB := Lib.hid (fun W (hb : Below b8 w8 W) => hp_up hM (h8 ▸ hb))
  clear hG7 hM7 hP7 hQ hM hb9 hO9 h8 hgx
  go_wp2_with fail
  go_loopw [12, 13] (fun a i wr => ∃ (k cap E : Nat) (L : List PosA), k ≤ n ∧ i = .int .i64 (k : Int) ∧ a = .slice (some ⟨E, 0, none⟩) k cap ∧ Hid (L.length = k) ∧ Hid (L.map (·.p) = (List.range k).map (allP bc nk (l.length % 9) q)) ∧ Hid (AllO wr L) ∧ Hid (OwnPs b8 wr (.slice (some ⟨E, 0, none⟩) k cap) L) ∧ Hid (Below b8 w8 wr)) (fun _ i _ => n - (RowKit.intOf i).toNat)
  case atStart => exact ⟨0, 0, b8, [], by omega, rfl, rfl, Lib.hid rfl, Lib.hid rfl, Lib.hid (fun x hx => by cases hx), HO9, HB9⟩
  case round =>
    obtain ⟨k, cap, E, L, hk, rfl, rfl, HL, HLP, HAO, HOP, HBR⟩ := hrel
    by_cases hlt : k < n
    · have t3 : decide ((k : Int) < (n : Int)) = true := by simp; omega
      have hGr := HG.out wr HBR.out
      have hMr := HM.out wr HBR.out
      have hMB := HMB.out wr HBR.out
      have hrow := all_row (i := k) hql (by rw [← HMM.out]; exact hqm) (by rw [← HMM.out, ← HNN.out]; exact hlt)
      have hav := (HPU.out.1 k hlt)
      have hpv := all_valid (h := l.length % 9) (i := k) hn1 (by omega) hql (by rw [← HMM.out]; exact hqm) (by rw [← HMM.out, ← HNN.out]; exact hlt)
      have hmt := all_mat (h := l.length % 9) (i := k) hql (by rw [← HMM.out]; exact hqm) (by rw [← HMM.out, ← HNN.out]; exact hlt)
      obtain ⟨r, hr⟩ : ∃ r, r = atS (countN (2 * nk + 1) q) bc k := ⟨_, rfl⟩
      have hall : allP bc nk (l.length % 9) q k = fldP nk r (l.length % 9) := by rw [hr]; rfl
      rw [← hr] at hrow hmt
      rw [← HMM.out] at hmt
      rw [hall] at hav hpv hmt
      obtain ⟨hrl, hrm0, -⟩ := hrow
      have hrm : ∀ x ∈ r, x < m := by rw [HMM.out]; exact hrm0
      have HAL := Lib.hid hall
      have HPV := Lib.hid hpv
      have HMT := Lib.hid hmt
      have HAT := Lib.hid (atO hb64 hn1 hn3 hGr (c := md) (c0 := md0) (c1 := md1) HFM.out hMr.pin (k : Int))
      rw [hav, mat_val] at HAT
      dsimp only at HAT
      rw [show (((0 : Nat) : Int)) = 0 from rfl] at HAT
      clear hr hall hpv hmt hrm0 hav
      have hgx := hGr.hg
      have hM := hMB
      go_upto_region 14 with (first | (refine wpList_load_row rfl 35 (.tmp 7) rfl y rfl 35 _ (0, 0) _ hgx Try.underlying35 rfl info_game ?_) | (refine wpList_load_row rfl 39 (.tmp 9) rfl mb rfl 39 _ (0, 0) _ hM Try.underlying39 rfl info_mat ?_) | (go_at_call 18; refine HAT.out.mono ?_; rintro e w10 ⟨ra, ra0, ra1, rd, rd0, rd1, rfl, hPO, hb10⟩; rw [fld_val2 hrl]))
      have hb11 : Below w10.heap.size w10 (w10.alloc (.cells #[.slice ra bc rd, .slice ra0 nk rd0, .slice ra1 nk rd1, .int .i64 1, .int .i64 0] 27)) := below_alloc (Below.refl _ _) _
      have hT := World.alloc_heap_new w10 (.cells #[.slice ra bc rd, .slice ra0 nk rd0, .slice ra1 nk rd1, .int .i64 1, .int .i64 0] 27)
      have hb12 := below_step hb10 hb11
      have HP12 := Lib.hid (POwn.base (hPO.upx hb11))
      have HBK := Lib.hid (HBR.out.trans (hb12.mono (by have := HBR.out.size; have := H8.out; omega)))
      have HAO2 := Lib.hid (HAO.out.up hb12)
      have HOP2 := Lib.hid (OwnPs.up HOP.out hb12)
      have hgx2 := hp_up hgx hb12
      have hM2 := hp_up hM hb12
      have hG12 := hGr.up hb12
      obtain ⟨tb, htb⟩ : ∃ tb, tb = w10.heap.size := ⟨_, rfl⟩
      generalize w10.alloc (.cells #[.slice ra bc rd, .slice ra0 nk rd0, .slice ra1 nk rd1, .int .i64 1, .int .i64 0] 27) = w12 at *
      simp only [← htb] at hT ⊢
      have hMr2 := hMr.upx hb12
      clear hPO hb10 hb11 hb12 htb hGr hMr hMB hgx hM HAT
      have hfr : PosFit (fldP nk r (l.length % 9)) := fld_fit hb64 hn3 hrl
      have HFR := Lib.hid hfr
      have HGR := Lib.hid hG12
      have HMR := Lib.hid hMr2
      clear hfr hG12 hMr2
      go_cut [84] (fun v wx => v = .bool false ∧ Below w12.heap.size w12 wx)
      case first =>
        have hd : Below w12.heap.size w12 w12.drew := (Below.refl _ _).drew
        have hS : (AS y tb mb [.int .i64 (bc : Int), .slice an 1 1, .slice at_ 1 1, .slice ak nk ck, .int .i64 2, .bool false, .slice none 0 0, .int .i64 3, .int .i64 2] [.slice ra bc rd, .slice ra0 nk rd0, .slice ra1 nk rd1, .int .i64 1, .int .i64 0] [.slice ma m md, .slice ma0 nk md0, .slice ma1 nk md1, .int .i64 1, .int .i64 0]) w12 := ⟨hgx2, hT, hM2⟩
        have hGd := HGR.out.up hd
        have hPd := HP12.out.upx hd
        have hMd := HMR.out.upx hd
        refine wp_region_held_drew (S := (AS y tb mb [.int .i64 (bc : Int), .slice an 1 1, .slice at_ 1 1, .slice ak nk ck, .int .i64 2, .bool false, .slice none 0 0, .int .i64 3, .int .i64 2] [.slice ra bc rd, .slice ra0 nk rd0, .slice ra1 nk rd1, .int .i64 1, .int .i64 0] [.slice ma m md, .slice ma0 nk md0, .slice ma1 nk md1, .int .i64 1, .int .i64 0])) (by kernel_rfl) (hS.up hd) (fun hSD => ?_)
        generalize w12.drew = wD at *
        clear hgx2 hM2 hT hS
        refine TC 0 ?_
        (try simp only [pS])
        refine TC 1 ?_
        (try simp only [pS])
        refine TC 2 ?_
        (try simp only [pS])
        refine TX 3 (YL rfl 35 _ rfl y 0 rfl _ [.int .i64 (bc : Int), .slice an 1 1, .slice at_ 1 1, .slice ak nk ck, .int .i64 2, .bool false, .slice none 0 0, .int .i64 3, .int .i64 2] _ _ (fun _ h => h.hg) rfl Try.underlying35 rfl info_game) ?_
        (try simp only [pS])
        refine TX 4 (YL rfl 27 _ rfl tb 0 rfl _ [.slice ra bc rd, .slice ra0 nk rd0, .slice ra1 nk rd1, .int .i64 1, .int .i64 0] _ _ (fun _ h => h.hq) rfl Try.underlying27 rfl info_pos) ?_
        (try simp only [pS])
        have HV := Lib.hid (validG hn3 hGd (c := rd) (c0 := rd0) (c1 := rd1) HFR.out hPd.pin)
        rw [HPV.out, fld_val2 hrl] at HV
        refine wpAnyH_ready (rs := [5]) (by kernel_rfl) (by simp) ?_
        refine AC (i := 5) (fun K hK => ?_) AllReadyH.nil
        refine step_call_h rfl 26 _ _ #[.agg #[.int .i64 (bc : Int), .slice an 1 1, .slice at_ 1 1, .slice ak nk ck, .int .i64 2, .bool false, .slice none 0 0, .int .i64 3, .int .i64 2], .agg #[.slice ra bc rd, .slice ra0 nk rd0, .slice ra1 nk rd1, .int .i64 1, .int .i64 0]] rfl rfl (enters_of Try.func26 (by kernel_rfl) rfl) (HV.out.mono ?_)
        rintro e w13 ⟨rfl, hb13⟩
        have hS13 := hSD.up hb13
        refine ⟨_, rfl, hK.out _ _ hS13 (fun _ => ?_)⟩
        clear hK K HV
        (try simp only [pS])
        refine TC 6 ?_
        (try simp only [pS])
        refine TC 7 ?_
        (try simp only [pS])
        refine TC 8 ?_
        (try simp only [pS])
        refine TX 9 (YL rfl 35 _ rfl y 0 rfl _ [.int .i64 (bc : Int), .slice an 1 1, .slice at_ 1 1, .slice ak nk ck, .int .i64 2, .bool false, .slice none 0 0, .int .i64 3, .int .i64 2] _ _ (fun _ h => h.hg) rfl Try.underlying35 rfl info_game) ?_
        (try simp only [pS])
        refine TX 10 (YL rfl 27 _ rfl tb 0 rfl _ [.slice ra bc rd, .slice ra0 nk rd0, .slice ra1 nk rd1, .int .i64 1, .int .i64 0] _ _ (fun _ h => h.hq) rfl Try.underlying27 rfl info_pos) ?_
        (try simp only [pS])
        refine TX 12 (YL rfl 39 _ rfl mb 0 rfl _ [.slice ma m md, .slice ma0 nk md0, .slice ma1 nk md1, .int .i64 1, .int .i64 0] _ _ (fun _ h => h.hm) rfl Try.underlying39 rfl info_mat) ?_
        (try simp only [pS])
        have HOF := Lib.hid (of_any (.int .i64 (bc : Int)) (.slice an 1 1) (.slice at_ 1 1) (.int .i64 2) (.bool false) (.slice none 0 0) (.int .i64 3) (.int .i64 2) (fldP nk r (l.length % 9)) r ak ra ra0 ra1 nk ck rd rd0 rd1 w13.heap.size m w13 (by omega) HMM.out rfl (by omega) hrm (by unfold fldP; simp; omega) (by unfold fldP; simp; omega) (by unfold fldP; simp; omega) (by unfold fldP; simp; omega) (Nat.le_refl _) (hPd.upx hb13).pin)
        rw [HMT.out, fld_val2 hrl] at HOF
        refine wpAnyH_ready (rs := [11]) (by kernel_rfl) (by simp) ?_
        refine AC (i := 11) (fun K hK => ?_) AllReadyH.nil
        refine step_call_h rfl 11 _ _ #[.agg #[.int .i64 (bc : Int), .slice an 1 1, .slice at_ 1 1, .slice ak nk ck, .int .i64 2, .bool false, .slice none 0 0, .int .i64 3, .int .i64 2], .agg #[.slice ra bc rd, .slice ra0 nk rd0, .slice ra1 nk rd1, .int .i64 1, .int .i64 0]] rfl rfl (enters_of Try.func11 (by kernel_rfl) rfl) (HOF.out.mono ?_)
        rintro e w14 ⟨qa, qa0, qa1, qd, qd0, qd1, rfl, hM14, hb14⟩
        have hS14 := hS13.up hb14
        rw [mat_val]
        refine ⟨_, rfl, hK.out _ _ hS14 (fun _ => ?_)⟩
        clear hK K HOF
        (try simp only [pS])
        have HSM := Lib.hid (same_any (matS m q (fldP nk q (l.length % 9))) (matS m q (fldP nk q (l.length % 9))) qa qa0 qa1 ma ma0 ma1 qd qd0 qd1 md md0 md1 w14.heap.size w14 HFM.out (Nat.le_refl _) hM14.pin ((hMd.upx hb13).upx hb14).pin)
        rw [mat_val, mat_val, eqB_self] at HSM
        refine wpAnyH_ready (rs := [13]) (by kernel_rfl) (by simp) ?_
        refine AC (i := 13) (fun K hK => ?_) AllReadyH.nil
        refine step_call_h rfl 12 _ _ #[.agg #[.slice qa m qd, .slice qa0 nk qd0, .slice qa1 nk qd1, .int .i64 1, .int .i64 0], .agg #[.slice ma m md, .slice ma0 nk md0, .slice ma1 nk md1, .int .i64 1, .int .i64 0]] rfl rfl (enters_of Try.func12 (by kernel_rfl) rfl) (HSM.out.mono ?_)
        rintro e w15 ⟨rfl, hb15⟩
        have hS15 := hS14.up hb15
        refine ⟨_, rfl, hK.out _ _ hS15 (fun _ => ?_)⟩
        clear hK K HSM
        (try simp only [pS])
        have HF := Lib.hid (below_step (below_step (below_step hd hb13) hb14) hb15)
        refine TC 14 ?_
        (try simp only [pS])
        refine TC 15 ?_
        (try simp only [pS])
        refine wpAnyH_done (by kernel_rfl) ?_ _
        go_wp2_with fail
        go_meet
        case rel => exact ⟨rfl, HF.out⟩
      case rest =>
        obtain ⟨rfl, hb16⟩ := hcut
        generalize wc = w16 at *
        replace hT := hp_up hT hb16
        have HP16 := Lib.hid (HP12.out.upx hb16)
        have HBZ := Lib.hid (HBK.out.trans (hb16.mono (by have := HBK.out.size; have := H8.out; omega)))
        have HAO3 := Lib.hid (HAO2.out.up hb16)
        have HOP3 := Lib.hid (OwnPs.up HOP2.out hb16)
        clear HAO HOP HBR HAO2 HOP2 HBK HP12 HGR HMR hgx2 hM2 hb16
        go_upto_region 16 with (fail)
        have hba : Below w16.heap.size w16 (w16.alloc (.cells #[.slice ra bc rd, .slice ra0 nk rd0, .slice ra1 nk rd1, .int .i64 1, .int .i64 0] 27)) := below_alloc (Below.refl _ _) _
        have hOA := OwnPs.up HOP3.out hba
        have hrA : (w16.alloc (.cells #[.slice ra bc rd, .slice ra0 nk rd0, .slice ra1 nk rd1, .int .i64 1, .int .i64 0] 27)).ownsRow b8 27 5 (.slice (some ⟨E, 0, none⟩) k cap) k (L.flatMap PosA.enc) := by
          have h9 := hOA
          unfold OwnPs at h9
          rw [HL.out] at h9
          exact h9
        have HAX := Lib.hid (AllO.snoc (HAO3.out.up hba) (x := (⟨fldP nk r (l.length % 9), ra, ra0, ra1, rd, rd0, rd1⟩ : PosA)) HFR.out (HP16.out.upx hba))
        have HRA := Lib.hid hrA
        have HOA := Lib.hid hOA
        have hb8 : b8 ≤ w16.heap.size := by have := HBZ.out.size; have := H8.out; omega
        have hk9 : k < 2000 := by omega
        clear hrA hOA hba
        go_wp2_with (first | (refine wpList_load_row rfl 27 (.tmp 14) rfl tb rfl 27 _ (0, 0) _ hT Try.underlying27 rfl info_pos ?_) | (refine wpList_pushC rfl 57 27 _ 5 88 Try.underlying57 info_posC rfl (by decide) (by decide) (.tmp 85) (.tmp 87) rfl b8 (.slice (some ⟨E, 0, none⟩) k cap) k (L.flatMap PosA.enc) rfl HRA.out hk9 (by simp; omega) w16.heap.size 1 [.slice ra bc rd, .slice ra0 nk rd0, .slice ra1 nk rd1, .int .i64 1, .int .i64 0] rfl rfl (World.alloc_heap_new _ _) (by simp [Value.oneCell']) ?_; intro g7 cap7 w17 hr7 hg7 hor7))
        have hen := fld_enc (nk := nk) (h := l.length % 9) hrl ra ra0 ra1 rd rd0 rd1
        have hq1 := addRow (y := (⟨fldP nk r (l.length % 9), ra, ra0, ra1, rd, rd0, rd1⟩ : PosA)) hb8 HOP3.out (by rw [hen]; exact hg7) (by rw [hen, HL.out]; exact hr7)
        have HQ1 := Lib.hid (show OwnPs b8 w17 (.slice (some ⟨g7, 0, none⟩) (k + 1) cap7) (L ++ [(⟨fldP nk r (l.length % 9), ra, ra0, ra1, rd, rd0, rd1⟩ : PosA)]) from hq1.1)
        have HQ2 := Lib.hid (HBZ.out.trans hq1.2)
        have HQ3 := Lib.hid (HAX.out.grow HOA.out hg7)
        have HQ4 := Lib.hid (show (L ++ [(⟨fldP nk r (l.length % 9), ra, ra0, ra1, rd, rd0, rd1⟩ : PosA)]).map (·.p) = (List.range (k + 1)).map (allP bc nk (l.length % 9) q) by rw [range_snoc, List.map_append, HLP.out, HAL.out]; rfl)
        have HQ5 := Lib.hid (show (L ++ [(⟨fldP nk r (l.length % 9), ra, ra0, ra1, rd, rd0, rd1⟩ : PosA)]).length = k + 1 by rw [List.length_append, HL.out]; rfl)
        have i9 : IntKind.i64.wrap ((k : Int) + 1) = (k : Int) + 1 := IntWalk.i64_in _ (by omega)
        clear hq1 hen hr7 hg7 hor7 HAX HRA HOA HAO3 HOP3 HBZ HP16 hT
        go_roundw
        case rel => exact ⟨k + 1, cap7, g7, _, by omega, by go_num, rfl, HQ5, HQ4, HQ3, HQ1, HQ2⟩
        case measure => simp [RowKit.intOf]; omega
    · obtain rfl : k = n := by omega
      have t3 : decide ((k : Int) < (k : Int)) = false := by simp
      have hGr := HG.out wr HBR.out
      have hMr := HM.out wr HBR.out
      have hM := HMB.out wr HBR.out
      have hQ := HQB.out wr HBR.out
      have hPr := HP.out wr HBR.out
      have hgx := hGr.hg
      have HAT := Lib.hid (atO hb64 hn1 hn3 hGr (c := md) (c0 := md0) (c1 := md1) HFM.out hMr.pin (k : Int))
      rw [HPU.out.2, mat_val] at HAT
      dsimp only at HAT
      have HBW := Lib.hid hGr.b
      clear HG HM HP HQB HMB HO9 HB9
      go_upto_region 17 with (fail)
      go_upto_region 18 with (first | (refine wpList_load_row rfl 35 (.tmp 7) rfl y rfl 35 _ (0, 0) _ hgx Try.underlying35 rfl info_game ?_) | (refine wpList_load_row rfl 39 (.tmp 9) rfl mb rfl 39 _ (0, 0) _ hM Try.underlying39 rfl info_mat ?_) | (go_at_call 18; refine HAT.out.mono ?_; rintro e w10 ⟨ra, ra0, ra1, rd, rd0, rd1, rfl, -, hb10⟩; rw [show ∀ a a0 a1 d d0 d1, PosV a a0 a1 d d0 d1 zeroP = .agg #[.slice a 0 d, .slice a0 0 d0, .slice a1 0 d1, .int .i64 0, .int .i64 0] from fun _ _ _ _ _ _ => rfl]))
      have hb11 : Below w10.heap.size w10 (w10.alloc (.cells #[.slice ra 0 rd, .slice ra0 0 rd0, .slice ra1 0 rd1, .int .i64 0, .int .i64 0] 27)) := below_alloc (Below.refl _ _) _
      have hb12 := below_step hb10 hb11
      generalize w10.alloc (.cells #[.slice ra 0 rd, .slice ra0 0 rd0, .slice ra1 0 rd1, .int .i64 0, .int .i64 0] 27) = w12 at *
      have HAO2 := HAO.out.up hb12
      have hOP2 := OwnPs.up HOP.out hb12
      rw [← HL.out] at hOP2
      have hin : PsIn w12 (some ⟨E, 0, none⟩) L := .inr ⟨E, 0, rfl, OwnPs.in_ hOP2⟩
      replace hPr := hPr.upx hb12
      replace hQ := hp_up hQ hb12
      have hsrt : Srt (L.map (·.p)) := by
        rw [HLP.out, HNN.out, HMM.out]
        exact all_srt hql (by rw [← HMM.out]; exact hqm)
      have hfnd : 0 ≤ findS (L.map (·.p)) (fldP nk q (l.length % 9)) := by
        rw [HLP.out, HNN.out, HMM.out]
        exact all_find hql (by rw [← HMM.out]; exact hqm)
      have HSO := Lib.hid (rsorted_any L (some ⟨E, 0, none⟩) cap w12.heap.size w12 (Nat.le_refl _) (by rw [HL.out]; omega) hsrt HAO2.ok hin)
      have HFN := Lib.hid (fun W (hb : Below w12.heap.size w12 W) => rfind_any L ⟨(fldP nk q (l.length % 9)), some ⟨g, 0, none⟩, some ⟨g0, 0, none⟩, some ⟨g1, 0, none⟩, bc, nk, nk⟩ (some ⟨E, 0, none⟩) cap W.heap.size W (Nat.le_refl _) (by rw [HL.out]; omega) hsrt (HAO2.up hb).ok ⟨HFP.out, (hPr.upx hb).pin⟩ (hin.up hb))
      unfold PosA.val at HFN
      dsimp only at HFN
      rw [HL.out] at HSO HFN
      simp only [fld_val2 hql] at HFN
      generalize findS (L.map (·.p)) (fldP nk q (l.length % 9)) = fv at *
      have t5 : decide (0 ≤ fv) = true := by simpa using hfnd
      have HBY := Lib.hid (below_step HBW.out hb12)
      clear hGr hMr hM hgx HAT HBW hb10 hb11 hb12 HAO2 hOP2 hin hPr hsrt HAO HOP HBR HLP
      go_wp2_with (first | (refine wpList_load_row rfl 27 (.tmp 8) rfl pb rfl 27 _ (0, 0) _ hQ Try.underlying27 rfl info_pos ?_) | (go_at_call 27; refine HSO.out.mono ?_; rintro e w13 ⟨rfl, hb13⟩; replace hQ := hp_up hQ hb13; replace HFN := Lib.hid (HFN.out w13 hb13); have c0 := bx_cell hQ 0 rfl; have c1 := bx_cell hQ 1 rfl; have c2 := bx_cell hQ 2 rfl; have c3 := bx_cell hQ 3 rfl; have c4 := bx_cell hQ 4 rfl) | (go_at_call 28; refine HFN.out.mono ?_; rintro e w14 ⟨rfl, hb14⟩))
      go_ret
      exact ⟨rfl, below_step (below_step HBY.out hb13) hb14⟩
end Go.Proofs.Ytepbmgbomdekaaa
