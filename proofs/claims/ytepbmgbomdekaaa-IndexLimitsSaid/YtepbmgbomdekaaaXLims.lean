/-
  IndexLimits.
-/
import Derived.Test.YtepbmgbomdekaaaXLaw
namespace Go.Proofs.Ytepbmgbomdekaaa
open Go Go.RowKit

/-- A material of one kind in its box. -/
structure LM (x N : Nat) (a a0 a1 : Option Addr) (p : PosS) (W : World) : Prop where
  hm : W.heap[x]? = some (.cells #[.slice a 3 3, .slice a0 1 1, .slice a1 1 1, .int .i64 p.rights, .int .i64 p.side] 39 (0, 0))
  hn : N ≤ W.heap.size
  hp : PosIn N W a a0 a1 p
theorem LM.up {x N : Nat} {a a0 a1 : Option Addr} {p : PosS} {W W' : World} (h : LM x N a a0 a1 p W) (hb : Below W.heap.size W W') : LM x N a a0 a1 p W' := ⟨hp_up h.hm hb, Nat.le_trans h.hn hb.size, h.hp.up h.hn hb⟩
theorem LM.set {x N B j : Nat} {a a0 a1 : Option Addr} {p : PosS} {W : World} {v : Value} (h : LM x N a a0 a1 p W) (hB : N ≤ B) (hx : x ≠ B) : LM x N a a0 a1 p (W.setCell ⟨B, j, none⟩ v) := by
  have hb : Below N W (W.setCell ⟨B, j, none⟩ v) := (alters_cell W B j v).below h.hn (fun k hk => by have e : k = B := hk; omega)
  exact ⟨(hp_far _ _ _ _ _ hx).trans h.hm, by simp [World.setCell]; exact h.hn, h.hp.cells.below hb, h.hp.h0.below hb, h.hp.h1.below hb⟩
theorem SG.set {w W W0 : World} {g N B j : Nat} {G : List Value} {ak : Option Addr} {ks : List Bool} {v : Value} (h : SG w g G N ak ks W) (h0 : SG w g G N ak ks W0) (hl : W0.heap.size ≤ B := by exact Nat.le_refl _) : SG w g G N ak ks (W.setCell ⟨B, j, none⟩ v) := by
  have ha := alters_cell W B j v
  have hne : g ≠ B := by have := bx_lt h0.hg; omega
  refine ⟨h.b.trans (ha.below h.b.size (fun k hk => by have e : k = B := hk; have := h0.b.size; omega)), (hp_far _ _ _ _ _ hne).trans h.hg, by simp [World.setCell]; exact h.hn, ?_⟩
  exact h.hk.below (ha.below h.hn (fun k hk => by have e : k = B := hk; have := h0.hn; omega))
theorem LM.kp {x N : Nat} {a a0 a1 : Option Addr} {p : PosS} {W : World} (h : LM x N a a0 a1 p W) : PosIn W.heap.size W a a0 a1 p := posin_mono h.hp h.hn
theorem fill3 (c9 a b bc : Nat) (d : Int) (hs : c9 + a + b = bc) : fillF [(c9 : Int) + d, (a : Int), (b : Int)] (bc : Int) = decide (d = 0) := by
  by_cases h : d = 0
  · subst h
    have e : [(c9 : Int) + 0, (a : Int), (b : Int)] = zs [c9, a, b] := by simp [zs]
    rw [e, decide_eq_true rfl, fillF_zs]
    simp; omega
  · rw [decide_eq_false h, Bool.eq_false_iff]
    intro hf
    obtain ⟨m, e, hm⟩ := fillF_some hf
    obtain ⟨x, y, z, rfl⟩ : ∃ x y z, m = [x, y, z] := by
      rcases m with _ | ⟨x, _ | ⟨y, _ | ⟨z, _ | ⟨u, l⟩⟩⟩⟩ <;> simp [zs] at e
      exact ⟨x, y, z, rfl⟩
    simp [zs] at e hm
    omega
theorem odd_again {w W W0 : World} {g N N4 mb ob : Nat} {G : List Value} {ak : Option Addr} {ks : List Bool} {am a8 az : Option Addr} {p : PosS} {old : Array Value} (hG : SG w g G N ak ks W) (hM : LM mb N4 am a8 az p W) (ho : W.heap[ob]? = some (.cells old 39 (0, 0))) (hNo : N4 ≤ ob) (hmo : mb < ob) (h0 : SG w g G N ak ks W0) (hob : W0.heap.size = ob) :
    SG w g G N ak ks (W.setRow ob #[.slice am 3 3, .slice a8 1 1, .slice az 1 1, .int .i64 p.rights, .int .i64 p.side]) ∧ LM mb N4 am a8 az p (W.setRow ob #[.slice am 3 3, .slice a8 1 1, .slice az 1 1, .int .i64 p.rights, .int .i64 p.side]) ∧ LM ob N4 am a8 az p (W.setRow ob #[.slice am 3 3, .slice a8 1 1, .slice az 1 1, .int .i64 p.rights, .int .i64 p.side]) := by
  have ha := setRow_alt W ob #[.slice am 3 3, .slice a8 1 1, .slice az 1 1, .int .i64 p.rights, .int .i64 p.side]
  have hb : Below N4 W (W.setRow ob #[.slice am 3 3, .slice a8 1 1, .slice az 1 1, .int .i64 p.rights, .int .i64 p.side]) := ha.below hM.hn (fun k hk => by have e : k = ob := hk; omega)
  have hp : PosIn N4 (W.setRow ob #[.slice am 3 3, .slice a8 1 1, .slice az 1 1, .int .i64 p.rights, .int .i64 p.side]) am a8 az p := ⟨hM.hp.cells.below hb, hM.hp.h0.below hb, hM.hp.h1.below hb⟩
  exact ⟨hG.row (W0 := W0) (by omega) h0, ⟨(setRow_other W ob mb _ (by omega)).trans hM.hm, by rw [size_setRow]; exact hM.hn, hp⟩, ⟨setRow_heap W ob _ _ _ _ ho, by rw [size_setRow]; exact hM.hn, hp⟩⟩
theorem odd_men {w W W0 : World} {g N N4 mb ob : Nat} {G : List Value} {ak : Option Addr} {ks : List Bool} {am a8 az : Option Addr} {p : PosS} {cs : Array Value} (l : List Int) (hl : cs.toList = l.map (Value.int .i64)) (hG : SG w g G N ak ks W) (hM : LM mb N4 am a8 az p W) (hD : LM ob N4 am a8 az p W) (hNo : N4 ≤ ob) (hmo : mb < ob) (h0 : SG w g G N ak ks W0) (hob : W0.heap.size = ob) :
    SG w g G N ak ks ((W.setCell ⟨ob, 0, none⟩ (.slice (some ⟨W.heap.size, 0, none⟩) 3 3)).alloc (.cells cs 3)) ∧ LM mb N4 am a8 az p ((W.setCell ⟨ob, 0, none⟩ (.slice (some ⟨W.heap.size, 0, none⟩) 3 3)).alloc (.cells cs 3)) ∧ LM ob ((W.setCell ⟨ob, 0, none⟩ (.slice (some ⟨W.heap.size, 0, none⟩) 3 3)).alloc (.cells cs 3)).heap.size (some ⟨W.heap.size, 0, none⟩) a8 az ⟨l, p.h0, p.h1, p.rights, p.side⟩ ((W.setCell ⟨ob, 0, none⟩ (.slice (some ⟨W.heap.size, 0, none⟩) 3 3)).alloc (.cells cs 3)) := by
  have hs6 : (W.setCell ⟨ob, 0, none⟩ (.slice (some ⟨W.heap.size, 0, none⟩) 3 3)).heap.size = W.heap.size := by simp [World.setCell]
  have hG6 := hG.set (B := ob) (j := 0) (v := .slice (some ⟨W.heap.size, 0, none⟩) 3 3) h0 (by omega)
  have hM6 := hM.set (B := ob) (j := 0) (v := .slice (some ⟨W.heap.size, 0, none⟩) 3 3) hNo (by omega)
  have hO6 := bx_set hD.hm 0 (.slice (some ⟨W.heap.size, 0, none⟩) 3 3)
  have hb7 : Below (W.setCell ⟨ob, 0, none⟩ (.slice (some ⟨W.heap.size, 0, none⟩) 3 3)).heap.size (W.setCell ⟨ob, 0, none⟩ (.slice (some ⟨W.heap.size, 0, none⟩) 3 3)) ((W.setCell ⟨ob, 0, none⟩ (.slice (some ⟨W.heap.size, 0, none⟩) 3 3)).alloc (.cells cs 3)) := below_alloc (Below.refl _ _) _
  have hL7 := World.alloc_heap_new (W.setCell ⟨ob, 0, none⟩ (.slice (some ⟨W.heap.size, 0, none⟩) 3 3)) (.cells cs 3)
  rw [hs6] at hL7
  have hM7 := hM6.up hb7
  exact ⟨hG6.up hb7, hM7, hp_up hO6 hb7, Nat.le_refl _, ints_lit hL7 l hl, hM7.kp.h0, hM7.kp.h1⟩
theorem odd_rights {w W W0 : World} {g N N4 mb ob : Nat} {G : List Value} {ak : Option Addr} {ks : List Bool} {am a8 az : Option Addr} {p : PosS} (r : Int) (hG : SG w g G N ak ks W) (hM : LM mb N4 am a8 az p W) (hD : LM ob N4 am a8 az p W) (hNo : N4 ≤ ob) (hmo : mb < ob) (h0 : SG w g G N ak ks W0) (hob : W0.heap.size = ob) :
    SG w g G N ak ks (W.setCell ⟨ob, 3, none⟩ (.int .i64 r)) ∧ LM mb N4 am a8 az p (W.setCell ⟨ob, 3, none⟩ (.int .i64 r)) ∧ LM ob N4 am a8 az ⟨p.cells, p.h0, p.h1, r, p.side⟩ (W.setCell ⟨ob, 3, none⟩ (.int .i64 r)) := by
  have hM6 := hM.set (B := ob) (j := 3) (v := .int .i64 r) hNo (by omega)
  exact ⟨hG.set (B := ob) (j := 3) (v := .int .i64 r) h0 (by omega), hM6, bx_set hD.hm 3 (.int .i64 r), hM6.hn, hM6.hp.cells, hM6.hp.h0, hM6.hp.h1⟩
theorem sz_men (bc : Nat) : sizeV bc 2 (blankK 1) ⟨[(bc : Int) + 1, -1, 0], [8], [0], 3, 1⟩ = (0, 140) := by
  unfold sizeV
  have hm : matB bc 2 (blankK 1) ⟨[(bc : Int) + 1, -1, 0], [8], [0], 3, 1⟩ = false := by
    unfold matB
    have : fillF [(bc : Int) + 1, -1, 0] (bc : Int) = false := by
      unfold fillF
      rw [if_neg (by omega), if_pos (by omega)]
    dsimp only
    rw [this]
    simp
  rw [hm]; rfl
theorem sz_rights (bc : Nat) (l : List Int) : sizeV bc 2 (blankK 1) ⟨l, [8], [0], 4, 1⟩ = (0, 140) := by
  unfold sizeV
  have hm : matB bc 2 (blankK 1) ⟨l, [8], [0], 4, 1⟩ = false := by
    unfold matB
    dsimp only
    rw [show upToB 4 (2 ^ 2 - 1) = false from rfl]
    simp
  rw [hm]; rfl
theorem vl_hand (bc : Nat) (l : List Int) : matB bc 2 (blankK 1) ⟨l, [9], [0], 3, 1⟩ = false := by
  unfold matB
  dsimp only
  rw [show handB (blankK 1) [9] = false from rfl]
  simp
theorem odd_hands {w W W0 : World} {g N N4 mb ob : Nat} {G : List Value} {ak : Option Addr} {ks : List Bool} {am a8 az : Option Addr} {p : PosS} {cs ds : Array Value} (l m : List Int) (hl : cs.toList = l.map (Value.int .i64)) (hm : ds.toList = m.map (Value.int .i64)) (hG : SG w g G N ak ks W) (hM : LM mb N4 am a8 az p W) (hD : LM ob N4 am a8 az p W) (hNo : N4 ≤ ob) (hmo : mb < ob) (h0 : SG w g G N ak ks W0) (hob : W0.heap.size = ob) :
    SG w g G N ak ks ((((W.setCell ⟨ob, 1, none⟩ (.slice (some ⟨W.heap.size, 0, none⟩) 1 1)).setCell ⟨ob, 2, none⟩ (.slice (some ⟨W.heap.size + 1, 0, none⟩) 1 1)).alloc (.cells cs 3)).alloc (.cells ds 3)) ∧
      LM ob ((((W.setCell ⟨ob, 1, none⟩ (.slice (some ⟨W.heap.size, 0, none⟩) 1 1)).setCell ⟨ob, 2, none⟩ (.slice (some ⟨W.heap.size + 1, 0, none⟩) 1 1)).alloc (.cells cs 3)).alloc (.cells ds 3)).heap.size am (some ⟨W.heap.size, 0, none⟩) (some ⟨W.heap.size + 1, 0, none⟩) ⟨p.cells, l, m, p.rights, p.side⟩ ((((W.setCell ⟨ob, 1, none⟩ (.slice (some ⟨W.heap.size, 0, none⟩) 1 1)).setCell ⟨ob, 2, none⟩ (.slice (some ⟨W.heap.size + 1, 0, none⟩) 1 1)).alloc (.cells cs 3)).alloc (.cells ds 3)) := by
  have hG6 := (hG.set (B := ob) (j := 1) (v := .slice (some ⟨W.heap.size, 0, none⟩) 1 1) h0 (by omega)).set (B := ob) (j := 2) (v := .slice (some ⟨W.heap.size + 1, 0, none⟩) 1 1) h0 (by omega)
  have hM6 := (hM.set (B := ob) (j := 1) (v := .slice (some ⟨W.heap.size, 0, none⟩) 1 1) hNo (by omega)).set (B := ob) (j := 2) (v := .slice (some ⟨W.heap.size + 1, 0, none⟩) 1 1) hNo (by omega)
  have hO6 := bx_set (bx_set hD.hm 1 (.slice (some ⟨W.heap.size, 0, none⟩) 1 1)) 2 (.slice (some ⟨W.heap.size + 1, 0, none⟩) 1 1)
  have hs6 : ((W.setCell ⟨ob, 1, none⟩ (.slice (some ⟨W.heap.size, 0, none⟩) 1 1)).setCell ⟨ob, 2, none⟩ (.slice (some ⟨W.heap.size + 1, 0, none⟩) 1 1)).heap.size = W.heap.size := by simp [World.setCell]
  obtain ⟨hb7, n0, n1, -⟩ := two_boxes ((W.setCell ⟨ob, 1, none⟩ (.slice (some ⟨W.heap.size, 0, none⟩) 1 1)).setCell ⟨ob, 2, none⟩ (.slice (some ⟨W.heap.size + 1, 0, none⟩) 1 1)) cs ds 3 3
  rw [hs6] at n0 n1
  have hM7 := hM6.up hb7
  refine ⟨hG6.up hb7, ?_, Nat.le_refl _, hM7.kp.cells, ints_lit n0 l hl, ints_lit n1 m hm⟩
  exact hp_up hO6 hb7
set_option maxRecDepth 100000 in
set_option maxHeartbeats 8000000 in
theorem lims_any (z0 z1 z2 : Nat) (d : Int) (h0 : z0 ≤ 255) (h1 : z1 ≤ 255) (h2 : z2 ≤ 255) (hd : -128 ≤ d ∧ d ≤ 127) (w : World) : Calls Try.prog 8 #[.agg #[.int .u8 (z0 : Int), .int .u8 (z1 : Int), .int .u8 (z2 : Int)], .int .i8 d] w fun e w' => e = .returned (.bool true) ∧ Below w.heap.size w w' := by
  obtain ⟨bc, hbc⟩ : ∃ bc, bc = 1 + z0 % 64 := ⟨_, rfl⟩
  have HBC := Lib.hid (show (1 : Int) + (z0 : Int) % 64 = (bc : Int) by rw [hbc]; omega)
  have hb64 : bc ≤ 64 := by omega
  have hb1 : 1 ≤ bc := by omega
  clear hbc
  obtain ⟨a, ha⟩ : ∃ a, a = z1 % (bc + 1) := ⟨_, rfl⟩
  have HA := Lib.hid (show (z1 : Int) % ((bc : Int) + 1) = (a : Int) by rw [ha]; push_cast; rfl)
  have hab : a ≤ bc := by have := Nat.mod_lt z1 (show 0 < bc + 1 by omega); omega
  clear ha
  obtain ⟨b, hb⟩ : ∃ b, b = z2 % (bc - a + 1) := ⟨_, rfl⟩
  have HB := Lib.hid (show (z2 : Int) % ((bc : Int) - (a : Int) + 1) = (b : Int) by
    have e : (bc : Int) - (a : Int) + 1 = ((bc - a + 1 : Nat) : Int) := by omega
    rw [hb, e]; push_cast; rfl)
  have hbb : a + b ≤ bc := by have := Nat.mod_lt z2 (show 0 < bc - a + 1 by omega); omega
  clear hb
  obtain ⟨c9, hc9⟩ : ∃ c9, c9 = bc - a - b := ⟨_, rfl⟩
  have HC9 := Lib.hid (show (bc : Int) - (a : Int) - (b : Int) = (c9 : Int) by omega)
  have HSUM := Lib.hid (show c9 + a + b = bc by omega)
  have hcb : c9 ≤ 64 := by omega
  clear hc9
  have HSA := Lib.hid (fun W => sanity_any W)
  go_enter Try.func8, Try.ntmps8
  go_upto_region 1 with (fail)
  have hX := World.alloc_heap_new w (.cells #[.int .u8 (z0 : Int), .int .u8 (z1 : Int), .int .u8 (z2 : Int)] 62)
  have hbx : Below w.heap.size w (w.alloc (.cells #[.int .u8 (z0 : Int), .int .u8 (z1 : Int), .int .u8 (z2 : Int)] 62)) := below_alloc (Below.refl _ _) _
  generalize w.alloc (.cells #[.int .u8 (z0 : Int), .int .u8 (z1 : Int), .int .u8 (z2 : Int)] 62) = w0 at *
  go_upto_region 2 with (go_at_call 9; refine (HSA.out _).mono ?_; rintro e w1 ⟨rfl, hbs⟩)
  have hX1 := hp_up hX hbs
  have x0 : w1.cell? ⟨w.heap.size, 0, none⟩ = some (.int .u8 (z0 : Int)) := bx_cell hX1 0 rfl
  have lx := bx_lt hX1
  go_upto_region 3 with (fail)
  rw [HBC.out]
  have HBL := Lib.hid (blank_any bc 1 w1 (by omega) (by omega) (by omega))
  clear x0
  go_upto_region 4 with (go_at_call 24; refine HBL.out.mono ?_; rintro e w2 ⟨an, at_, ak, ck, rfl, hk2, hb2⟩)
  have hG := SG.made (bc := bc) (an := an) (at_ := at_) (ck := ck) (below_step (below_step hbx hbs) hb2) hk2
  have hb3 : Below w2.heap.size w2 (w2.alloc (.cells #[.int .i64 (bc : Int), .slice an 1 1, .slice at_ 1 1, .slice ak 1 ck, .int .i64 2, .bool false, .slice none 0 0, .int .i64 3, .int .i64 2] 35)) := below_alloc (Below.refl _ _) _
  have hX3 := hp_up (hp_up hX1 hb2) hb3
  clear HBL hb2 hk2 hbx hbs hb3 HSA hX hX1
  generalize w2.alloc (.cells #[.int .i64 (bc : Int), .slice an 1 1, .slice at_ 1 1, .slice ak 1 ck, .int .i64 2, .bool false, .slice none 0 0, .int .i64 3, .int .i64 2] 35) = w3 at *
  generalize w2.heap.size = g at *
  have x1 : w3.cell? ⟨w.heap.size, 1, none⟩ = some (.int .u8 (z1 : Int)) := bx_cell hX3 1 rfl
  have x2 : w3.cell? ⟨w.heap.size, 2, none⟩ = some (.int .u8 (z2 : Int)) := bx_cell hX3 2 rfl
  have lx3 := bx_lt hX3
  clear lx
  go_upto_region 5 with (fail)
  rw [HA.out]
  go_upto_region 6 with (fail)
  rw [HB.out]
  clear x1 x2 lx3 hX3
  go_upto_region 8 with (fail)
  obtain ⟨hb4, n0, n1, n2, n3⟩ := four_boxes w3 #[.int .i64 ((bc : Int) - (a : Int) - (b : Int)), .int .i64 (a : Int), .int .i64 (b : Int)] #[.int .i64 8] #[.int .i64 0] #[.slice (some ⟨w3.heap.size, 0, none⟩) 3 3, .slice (some ⟨w3.heap.size + 1, 0, none⟩) 1 1, .slice (some ⟨w3.heap.size + 1 + 1, 0, none⟩) 1 1, .int .i64 3, .int .i64 1] 3 3 3 39
  have hG4 := hG.up hb4
  have hsz4 : ((((w3.alloc (.cells #[.int .i64 ((bc : Int) - (a : Int) - (b : Int)), .int .i64 (a : Int), .int .i64 (b : Int)] 3)).alloc (.cells #[.int .i64 8] 3)).alloc (.cells #[.int .i64 0] 3)).alloc (.cells #[.slice (some ⟨w3.heap.size, 0, none⟩) 3 3, .slice (some ⟨w3.heap.size + 1, 0, none⟩) 1 1, .slice (some ⟨w3.heap.size + 1 + 1, 0, none⟩) 1 1, .int .i64 3, .int .i64 1] 39)).heap.size = w3.heap.size + 4 := by simp
  generalize (((w3.alloc (.cells #[.int .i64 ((bc : Int) - (a : Int) - (b : Int)), .int .i64 (a : Int), .int .i64 (b : Int)] 3)).alloc (.cells #[.int .i64 8] 3)).alloc (.cells #[.int .i64 0] 3)).alloc (.cells #[.slice (some ⟨w3.heap.size, 0, none⟩) 3 3, .slice (some ⟨w3.heap.size + 1, 0, none⟩) 1 1, .slice (some ⟨w3.heap.size + 1 + 1, 0, none⟩) 1 1, .int .i64 3, .int .i64 1] 39) = w4 at *
  have hI0 : Ints w4.heap.size w4 (some ⟨w3.heap.size, 0, none⟩) (zs [c9, a, b]) := ints_lit n0 (zs [c9, a, b]) (by rw [HC9.out]; rfl)
  obtain ⟨N4, hN4⟩ : ∃ N4, N4 = w4.heap.size := ⟨_, rfl⟩
  have hM4 : LM (w3.heap.size + 1 + 1 + 1) N4 (some ⟨w3.heap.size, 0, none⟩) (some ⟨w3.heap.size + 1, 0, none⟩) (some ⟨w3.heap.size + 1 + 1, 0, none⟩) ⟨zs [c9, a, b], [8], [0], 3, 1⟩ w4 :=
    by rw [hN4]; exact ⟨n3, Nat.le_refl _, hI0, ints_lit n1 [8] rfl, ints_lit n2 [0] rfl⟩
  clear hN4 hb4 n0 n1 n2 n3 hG hsz4
  generalize (some ⟨w3.heap.size, 0, none⟩ : Option Addr) = am at *
  generalize (some ⟨w3.heap.size + 1, 0, none⟩ : Option Addr) = a8 at *
  generalize (some ⟨w3.heap.size + 1 + 1, 0, none⟩ : Option Addr) = az at *
  generalize w3.heap.size + 1 + 1 + 1 = mb at *
  have hsumL : [c9, a, b].sum = bc := by have := HSUM.out; simp; omega
  have HWY := Lib.hid (rways_any [c9, a, b] am 3 _ w4 (by simp) (by omega) hI0)
  clear hI0
  go_upto_region 9 with (go_at_call 29; refine HWY.out.mono ?_; rintro e w' ⟨⟨v, hv, rfl⟩, rfl⟩)
  have hv1 := size_one (bc := bc) (l := [c9, a, b]) rfl hsumL [8] [0] rfl rfl 3 1 rfl rfl
  have HV1 := Lib.hid hv1
  have HTV := Lib.hid hv
  have HSL := Lib.hid hsumL
  clear hv hv1 HWY hsumL
  obtain ⟨W9, hW9⟩ : ∃ W9, ways [c9, a, b] = W9 := ⟨_, rfl⟩
  rw [hW9] at HV1 HTV
  have HW9 := Lib.hid hW9
  clear hW9
  have hfit : ∀ (x : List Int) (y z : List Int) (r t : Int), x.length = 3 → y.length = 1 → z.length = 1 → PosFit ⟨x, y, z, r, t⟩ := fun x y z r t h1 h2 h3 => ⟨by rw [h1]; decide, by rw [h2]; decide, by rw [h3]; decide⟩
  have HFIT := Lib.hid hfit
  clear hfit
  have HZ := Lib.hid (sizeG hb64 (by omega) hG4 (c := 3) (c0 := 1) (c1 := 1) (HFIT.out _ _ _ 3 1 rfl rfl rfl) hM4.kp)
  have hg9 := hG4.hg
  have hm9 := hM4.hm
  generalize hw9 : w' = w9 at *
  clear hw9
  obtain ⟨nv, ev, hne, hcase⟩ : ∃ nv ev : Nat, sizeV bc 2 (blankK 1) ⟨zs [c9, a, b], [8], [0], 3, 1⟩ = (nv, ev) ∧ ((v ≤ 1099511627776 ∧ nv = v ∧ ev = 0) ∨ (1099511627776 < v ∧ nv = 0 ∧ ev = 2)) := by
    have h1 := HV1.out
    rcases HTV.out with ⟨h2, h3⟩ | ⟨h2, h3, _⟩
    · rw [if_pos h2] at h1
      exact ⟨W9, 0, h1, .inl ⟨by omega, h3.symm, rfl⟩⟩
    · rw [if_neg (by omega)] at h1
      exact ⟨0, 2, h1, .inr ⟨h3, rfl, rfl⟩⟩
  have HNE := Lib.hid hne
  rw [hne] at HZ
  clear hne
  have hvb : v ≤ 72057594037927936 := by rcases HTV.out with h | h <;> omega
  go_upto_region 10 with (first | (refine wpList_load_row rfl 35 (.tmp 7) rfl g rfl 35 _ (0, 0) _ hg9 Try.underlying35 rfl info_game ?_) | (refine wpList_load_row rfl 39 (.tmp 11) rfl mb rfl 39 _ (0, 0) _ hm9 Try.underlying39 rfl info_mat ?_) | (go_at_call 14; refine HZ.out.mono ?_; rintro e w5 ⟨rfl, hb5⟩))
  have hG5 := hG4.up hb5
  have hM5 := hM4.up hb5
  clear HZ hg9 hm9 hG4 hM4 hb5
  have HE := Lib.hid (show (ev : Int) ≠ 140 by rcases hcase with h | h <;> omega)
  go_cut [89] (fun v wx => v = .bool false ∧ wx = w5)
  case first =>
    rcases hcase with ⟨hv1, rfl, rfl⟩ | ⟨hv1, rfl, rfl⟩
    · have t1 : decide ((nv : Int) ≤ 1099511627776) = true := by simp; omega
      have t2 : decide ((1099511627776 : Int) < (nv : Int)) = false := by simp; omega
      have t3 : ((nv : Int) != (nv : Int)) = false := by simp
      go_wp2
      go_meet
      case rel => exact ⟨rfl, rfl⟩
    · have t1 : decide ((v : Int) ≤ 1099511627776) = false := by simp; omega
      have t2 : decide ((1099511627776 : Int) < (v : Int)) = true := by simp; omega
      go_wp2
      go_meet
      case rel => exact ⟨rfl, rfl⟩
  case rest =>
    obtain ⟨rfl, rfl⟩ := hcut
    have hm9 := hM5.hm
    have lmb := bx_lt hm9
    go_upto_region 13 with ((refine wpList_load_row rfl 39 (.tmp 11) rfl mb rfl 39 _ (0, 0) _ hm9 Try.underlying39 rfl info_mat ?_))
    have hO6 := World.alloc_heap_new wc (.cells #[.slice am 3 3, .slice a8 1 1, .slice az 1 1, .int .i64 3, .int .i64 1] 39)
    have hb6 : Below wc.heap.size wc (wc.alloc (.cells #[.slice am 3 3, .slice a8 1 1, .slice az 1 1, .int .i64 3, .int .i64 1] 39)) := below_alloc (Below.refl _ _) _
    have hG6 := hG5.up hb6
    have hM6 := hM5.up hb6
    have hNo : N4 ≤ wc.heap.size := hM5.hn
    have hgo := bx_lt hG5.hg
    have hwo := hG5.b.size
    have hkn := hG5.hn
    clear hm9 hM5 hb6
    generalize wc.alloc (.cells #[.slice am 3 3, .slice a8 1 1, .slice az 1 1, .int .i64 3, .int .i64 1] 39) = w6 at *
    have lob := bx_lt hO6
    have o6 : w6.cell? ⟨wc.heap.size, 0, none⟩ = some (.slice am 3 3) := bx_cell hO6 0 rfl
    have f6 := bx_frozen hO6 0
    go_upto_region 14 with (fail)
    have hs6 : (w6.setCell ⟨wc.heap.size, 0, none⟩ (.slice (some ⟨w6.heap.size, 0, none⟩) 3 3)).heap.size = w6.heap.size := by simp [World.setCell]
    have hG6s := hG6.set (B := wc.heap.size) (j := 0) (v := .slice (some ⟨w6.heap.size, 0, none⟩) 3 3) hG5
    have hM6s := hM6.set (B := wc.heap.size) (j := 0) (v := .slice (some ⟨w6.heap.size, 0, none⟩) 3 3) hNo (by omega)
    have hO6s := bx_set hO6 0 (.slice (some ⟨w6.heap.size, 0, none⟩) 3 3)
    generalize w6.setCell ⟨wc.heap.size, 0, none⟩ (.slice (some ⟨w6.heap.size, 0, none⟩) 3 3) = w6s at *
    rw [← hs6] at hO6s ⊢
    have hb7 : Below w6s.heap.size w6s (w6s.alloc (.cells #[.int .i64 ((bc : Int) - (a : Int) - (b : Int) + d), .int .i64 (a : Int), .int .i64 (b : Int)] 3)) := below_alloc (Below.refl _ _) _
    have hL7 := World.alloc_heap_new w6s (.cells #[.int .i64 ((bc : Int) - (a : Int) - (b : Int) + d), .int .i64 (a : Int), .int .i64 (b : Int)] 3)
    have hO7 := hp_up hO6s hb7
    have hG7 := hG6s.up hb7
    have hM7 := hM6s.up hb7
    have hI7 : Ints (w6s.alloc (.cells #[.int .i64 ((bc : Int) - (a : Int) - (b : Int) + d), .int .i64 (a : Int), .int .i64 (b : Int)] 3)).heap.size (w6s.alloc (.cells #[.int .i64 ((bc : Int) - (a : Int) - (b : Int) + d), .int .i64 (a : Int), .int .i64 (b : Int)] 3)) (some ⟨w6s.heap.size, 0, none⟩) [(c9 : Int) + d, (a : Int), (b : Int)] :=
      ints_lit hL7 _ (by rw [← HC9.out]; rfl)
    clear hb7 hL7 hO6 hG6 hM6 o6 f6 hO6s hG6s hM6s hs6
    generalize w6s.alloc (.cells #[.int .i64 ((bc : Int) - (a : Int) - (b : Int) + d), .int .i64 (a : Int), .int .i64 (b : Int)] 3) = w7 at *
    generalize (some ⟨w6s.heap.size, 0, none⟩ : Option Addr) = al at *
    have hD7 : LM wc.heap.size w7.heap.size al a8 az ⟨[(c9 : Int) + d, (a : Int), (b : Int)], [8], [0], 3, 1⟩ w7 := ⟨hO7, Nat.le_refl _, hI7, hM7.kp.h0, hM7.kp.h1⟩
    clear hI7 hO7
    generalize hob : wc.heap.size = ob at *
    have HOB := Lib.hid hob
    clear hob
    obtain ⟨z, hz⟩ : ∃ z, decide (d = 0) = z := ⟨_, rfl⟩
    have HMT := Lib.hid (show matB bc 2 (blankK 1) ⟨[(c9 : Int) + d, (a : Int), (b : Int)], [8], [0], 3, 1⟩ = z by
      rw [← hz, ← fill3 c9 a b bc d HSUM.out]
      unfold matB
      dsimp only
      rw [show blankK 1 = [true] from rfl, show handB [true] [8] = true from rfl, show handB [true] [0] = true from rfl, show upToB 3 (2 ^ 2 - 1) = true from rfl, show upToB 1 1 = true from rfl]
      simp)
    obtain ⟨fn, fe, hfn, hfz⟩ : ∃ fn fe : Nat, sizeV bc 2 (blankK 1) ⟨[(c9 : Int) + d, (a : Int), (b : Int)], [8], [0], 3, 1⟩ = (fn, fe) ∧ ((fe : Int) == 140) = !z := by
      by_cases hd0 : d = 0
      · subst hd0
        have e : [(c9 : Int) + 0, (a : Int), (b : Int)] = zs [c9, a, b] := by simp [zs]
        rw [e]
        exact ⟨nv, ev, HNE.out, by rw [← hz]; have := HE.out; simpa using this⟩
      · refine ⟨0, 140, ?_, by rw [← hz]; simp [hd0]⟩
        unfold sizeV
        rw [HMT.out, ← hz, decide_eq_false hd0]
        rfl
    obtain ⟨qa, he, hqa, hhz⟩ : ∃ (qa : PosS) (he : Nat), atV bc 2 (blankK 1) ⟨[(c9 : Int) + d, (a : Int), (b : Int)], [8], [0], 3, 1⟩ 0 = (qa, he) ∧ ((he : Int) == 140) = !z := by
      unfold atV
      rw [hfn]
      dsimp only
      by_cases hfe : fe = 0
      · rw [if_pos hfe]
        have hpos : 0 < fn := by
          have h1 := size_two (bc := bc) (r := 2) (ks := blankK 1) (p := ⟨[(c9 : Int) + d, (a : Int), (b : Int)], [8], [0], 3, 1⟩) (by rw [hfn]; exact hfe)
          rw [hfn] at h1
          have := h1.2.2
          have := ways_pos (nats [(c9 : Int) + d, (a : Int), (b : Int)])
          simp at *
          omega
        rw [if_pos ⟨Int.le_refl _, by omega⟩]
        exact ⟨_, 0, rfl, by rw [← hfz, hfe]⟩
      · rw [if_neg hfe]
        exact ⟨_, fe, rfl, hfz⟩
    have HFN := Lib.hid hfn
    have HQA := Lib.hid hqa
    have tz : (d == 0) = z := by rw [← hz]; rfl
    have tz2 : (d != 0) = !z := by rw [← tz]; rfl
    clear hfn hqa hz
    have HZ2 := Lib.hid (sizeG hb64 (by omega) hG7 (c := 3) (c0 := 1) (c1 := 1) (HFIT.out _ _ _ 3 1 rfl rfl rfl) hD7.kp)
    rw [HFN.out] at HZ2
    have hg9 := hG7.hg
    have hm9 := hD7.hm
    go_upto_region 15 with (first | (refine wpList_load_row rfl 35 (.tmp 7) rfl g rfl 35 _ (0, 0) _ hg9 Try.underlying35 rfl info_game ?_) | (refine wpList_load_row rfl 39 (.tmp 15) rfl ob rfl 39 _ (0, 0) _ hm9 Try.underlying39 rfl info_mat ?_) | (go_at_call 14; refine HZ2.out.mono ?_; rintro e w8 ⟨rfl, hb8⟩))
    have hG8 := hG7.up hb8
    have hM8 := hM7.up hb8
    have hD8 := hD7.up hb8
    clear HZ2 hg9 hm9 hG7 hM7 hD7 hb8
    have HAT := Lib.hid (atG hb64 (by omega) (by omega) hG8 (c := 3) (c0 := 1) (c1 := 1) (HFIT.out _ _ _ 3 1 rfl rfl rfl) hD8.kp 0)
    rw [HQA.out] at HAT
    unfold PosV at HAT
    have hg9 := hG8.hg
    have hm9 := hD8.hm
    go_upto_region 16 with (first | (refine wpList_load_row rfl 35 (.tmp 7) rfl g rfl 35 _ (0, 0) _ hg9 Try.underlying35 rfl info_game ?_) | (refine wpList_load_row rfl 39 (.tmp 15) rfl ob rfl 39 _ (0, 0) _ hm9 Try.underlying39 rfl info_mat ?_) | (go_at_call 18; refine HAT.out.mono ?_; rintro e w9 ⟨y0, y1, y2, y3, y4, y5, rfl, -, hb9⟩))
    have hb10 : Below w9.heap.size w9 (w9.alloc (.cells #[.slice y0 qa.cells.length y3, .slice y1 qa.h0.length y4, .slice y2 qa.h1.length y5, .int .i64 qa.rights, .int .i64 qa.side] 27)) := below_alloc (Below.refl _ _) _
    have hG := (hG8.up hb9).up hb10
    have hM := (hM8.up hb9).up hb10
    have hD := (hD8.up hb9).up hb10
    have hmo : mb < ob := by have := HOB.out; omega
    clear HAT hg9 hm9 hG8 hM8 hD8 hb9 hb10
    generalize w9.alloc (.cells #[.slice y0 qa.cells.length y3, .slice y1 qa.h0.length y4, .slice y2 qa.h1.length y5, .int .i64 qa.rights, .int .i64 qa.side] 27) = w10 at *
    have HVL := Lib.hid (matG hb64 (by omega) hG (c := 3) (c0 := 1) (c1 := 1) (HFIT.out _ _ _ 3 1 rfl rfl rfl) hD.kp)
    rw [HMT.out] at HVL
    have hg9 := hG.hg
    have hm9 := hD.hm
    go_cut [134] (fun v wx => v = .bool false ∧ Below w10.heap.size w10 wx)
    case first =>
      cases z with
      | false =>
        go_wp2_with (first | (refine wpList_load_row rfl 35 (.tmp 7) rfl g rfl 35 _ (0, 0) _ hg9 Try.underlying35 rfl info_game ?_) | (refine wpList_load_row rfl 39 (.tmp 15) rfl ob rfl 39 _ (0, 0) _ hm9 Try.underlying39 rfl info_mat ?_) | (go_at_call 16; refine HVL.out.mono ?_; rintro e w11 ⟨rfl, hb11⟩))
        go_meet
        case rel => exact ⟨rfl, hb11⟩
      | true =>
        go_wp2_with (first | (refine wpList_load_row rfl 35 (.tmp 7) rfl g rfl 35 _ (0, 0) _ hg9 Try.underlying35 rfl info_game ?_) | (refine wpList_load_row rfl 39 (.tmp 15) rfl ob rfl 39 _ (0, 0) _ hm9 Try.underlying39 rfl info_mat ?_) | (go_at_call 16; refine HVL.out.mono ?_; rintro e w11 ⟨rfl, hb11⟩))
        go_meet
        case rel => exact ⟨rfl, hb11⟩
    case rest =>
    obtain ⟨rfl, hb11⟩ := hcut
    generalize wc = w11 at *
    go_upto_region 18 with (fail)
    replace hG := hG.up hb11
    replace hM := hM.up hb11
    replace hD := hD.up hb11
    clear HVL hg9 hm9 hb11
    have hm9 := hM.hm
    have ho9 := hD.hm
    go_upto_region 19 with (first | (refine wpList_load_row rfl 39 (.tmp 11) rfl mb rfl 39 _ (0, 0) _ hm9 Try.underlying39 rfl info_mat ?_) | (refine wpList_store_row rfl 39 (.tmp 15) (.tmp 135) rfl ob #[.slice am 3 3, .slice a8 1 1, .slice az 1 1, .int .i64 3, .int .i64 1] rfl rfl 39 _ ho9 info_mat rfl (by simp [Value.oneCell']) ?_))
    obtain ⟨hG', hM', hD'⟩ := odd_again hG hM ho9 hNo hmo hG5 HOB.out
    clear hm9 ho9 hD
    replace hG := hG'
    replace hM := hM'
    have hD := hD'
    clear hG' hM' hD'
    generalize w11.setRow ob #[.slice am 3 3, .slice a8 1 1, .slice az 1 1, .int .i64 3, .int .i64 1] = w12 at *
    have ho9 := hD.hm
    have o0 : w12.cell? ⟨ob, 0, none⟩ = some (.slice am 3 3) := bx_cell ho9 0 rfl
    have f0 := bx_frozen ho9 0
    have lo := bx_lt ho9
    go_upto_region 20 with (fail)
    obtain ⟨hG', hM', hD'⟩ := odd_men (cs := #[.int .i64 ((bc : Int) + 1), .int .i64 (-1), .int .i64 0]) [(bc : Int) + 1, -1, 0] rfl hG hM hD hNo hmo hG5 HOB.out
    clear ho9 o0 f0 lo hD
    replace hG := hG'
    replace hM := hM'
    have hD := hD'
    clear hG' hM' hD'
    generalize (w12.setCell ⟨ob, 0, none⟩ (.slice (some ⟨w12.heap.size, 0, none⟩) 3 3)).alloc (.cells #[.int .i64 ((bc : Int) + 1), .int .i64 (-1), .int .i64 0] 3) = w13 at *
    generalize (some ⟨w12.heap.size, 0, none⟩ : Option Addr) = am13 at *
    have HZ14 := Lib.hid (sizeG hb64 (by omega) hG (c := 3) (c0 := 1) (c1 := 1) (HFIT.out _ _ _ _ 1 rfl rfl rfl) hD.kp)
    rw [sz_men bc] at HZ14
    have hg9 := hG.hg
    have hm9 := hD.hm
    go_upto_region 21 with (first | (refine wpList_load_row rfl 35 (.tmp 7) rfl g rfl 35 _ (0, 0) _ hg9 Try.underlying35 rfl info_game ?_) | (refine wpList_load_row rfl 39 (.tmp 15) rfl ob rfl 39 _ (0, 0) _ hm9 Try.underlying39 rfl info_mat ?_) | (go_at_call 14; refine HZ14.out.mono ?_; rintro e w14 ⟨rfl, hb14⟩))
    replace hG := hG.up hb14
    replace hM := hM.up hb14
    replace hD := hD.up hb14
    clear HZ14 hg9 hm9 hb14
    have hm9 := hM.hm
    have ho9 := hD.hm
    go_upto_region 22 with (first | (refine wpList_load_row rfl 39 (.tmp 11) rfl mb rfl 39 _ (0, 0) _ hm9 Try.underlying39 rfl info_mat ?_) | (refine wpList_store_row rfl 39 (.tmp 15) (.tmp 146) rfl ob #[.slice am 3 3, .slice a8 1 1, .slice az 1 1, .int .i64 3, .int .i64 1] rfl rfl 39 _ ho9 info_mat rfl (by simp [Value.oneCell']) ?_))
    obtain ⟨hG', hM', hD'⟩ := odd_again hG hM ho9 hNo hmo hG5 HOB.out
    clear hm9 ho9 hD
    replace hG := hG'
    replace hM := hM'
    have hD := hD'
    clear hG' hM' hD'
    generalize w14.setRow ob #[.slice am 3 3, .slice a8 1 1, .slice az 1 1, .int .i64 3, .int .i64 1] = w15 at *
    have ho9 := hD.hm
    have o0 : w15.cell? ⟨ob, 3, none⟩ = some (.int .i64 3) := bx_cell ho9 3 rfl
    have f0 := bx_frozen ho9 3
    have lo := bx_lt ho9
    go_upto_region 23 with (fail)
    obtain ⟨hG', hM', hD'⟩ := odd_rights 4 hG hM hD hNo hmo hG5 HOB.out
    clear ho9 o0 f0 lo hD
    replace hG := hG'
    replace hM := hM'
    have hD := hD'
    clear hG' hM' hD'
    generalize w15.setCell ⟨ob, 3, none⟩ (.int .i64 4) = w16 at *
    have HZ17 := Lib.hid (sizeG hb64 (by omega) hG (c := 3) (c0 := 1) (c1 := 1) (HFIT.out _ _ _ _ 1 rfl rfl rfl) hD.kp)
    rw [sz_rights bc _] at HZ17
    have hg9 := hG.hg
    have hm9 := hD.hm
    go_upto_region 24 with (first | (refine wpList_load_row rfl 35 (.tmp 7) rfl g rfl 35 _ (0, 0) _ hg9 Try.underlying35 rfl info_game ?_) | (refine wpList_load_row rfl 39 (.tmp 15) rfl ob rfl 39 _ (0, 0) _ hm9 Try.underlying39 rfl info_mat ?_) | (go_at_call 14; refine HZ17.out.mono ?_; rintro e w17 ⟨rfl, hb17⟩))
    replace hG := hG.up hb17
    replace hM := hM.up hb17
    replace hD := hD.up hb17
    clear HZ17 hg9 hm9 hb17
    have hm9 := hM.hm
    have ho9 := hD.hm
    go_upto_region 25 with (first | (refine wpList_load_row rfl 39 (.tmp 11) rfl mb rfl 39 _ (0, 0) _ hm9 Try.underlying39 rfl info_mat ?_) | (refine wpList_store_row rfl 39 (.tmp 15) (.tmp 154) rfl ob #[.slice am 3 3, .slice a8 1 1, .slice az 1 1, .int .i64 3, .int .i64 1] rfl rfl 39 _ ho9 info_mat rfl (by simp [Value.oneCell']) ?_))
    obtain ⟨hG', hM', hD'⟩ := odd_again hG hM ho9 hNo hmo hG5 HOB.out
    clear hm9 ho9 hD
    replace hG := hG'
    replace hM := hM'
    have hD := hD'
    clear hG' hM' hD'
    generalize w17.setRow ob #[.slice am 3 3, .slice a8 1 1, .slice az 1 1, .int .i64 3, .int .i64 1] = w18 at *
    have ho9 := hD.hm
    have o1 : w18.cell? ⟨ob, 1, none⟩ = some (.slice a8 1 1) := bx_cell ho9 1 rfl
    have o2 : w18.cell? ⟨ob, 2, none⟩ = some (.slice az 1 1) := bx_cell ho9 2 rfl
    have f1 := bx_frozen ho9 1
    have f2 := bx_frozen ho9 2
    have lo := bx_lt ho9
    go_upto_region 26 with (fail)
    obtain ⟨hG', hD'⟩ := odd_hands [9] [0] (cs := #[.int .i64 9]) (ds := #[.int .i64 0]) rfl rfl hG hM hD hNo hmo hG5 HOB.out
    clear ho9 o1 o2 f1 f2 lo hD hG hM
    generalize (((w18.setCell ⟨ob, 1, none⟩ (.slice (some ⟨w18.heap.size, 0, none⟩) 1 1)).setCell ⟨ob, 2, none⟩ (.slice (some ⟨w18.heap.size + 1, 0, none⟩) 1 1)).alloc (.cells #[.int .i64 9] 3)).alloc (.cells #[.int .i64 0] 3) = w19 at *
    generalize (some ⟨w18.heap.size, 0, none⟩ : Option Addr) = a9 at *
    generalize (some ⟨w18.heap.size + 1, 0, none⟩ : Option Addr) = a10 at *
    have HVL := Lib.hid (matG hb64 (by omega) hG' (c := 3) (c0 := 1) (c1 := 1) (HFIT.out _ _ _ _ 1 rfl rfl rfl) hD'.kp)
    rw [vl_hand bc] at HVL
    have hg9 := hG'.hg
    have hm9 := hD'.hm
    have gc0 := bx_cell hg9 0 rfl
    have gc1 := bx_cell hg9 1 rfl
    have gc2 := bx_cell hg9 2 rfl
    have gc3 := bx_cell hg9 3 rfl
    have gc4 := bx_cell hg9 4 rfl
    have gc5 := bx_cell hg9 5 rfl
    have gc6 := bx_cell hg9 6 rfl
    have gc7 := bx_cell hg9 7 rfl
    have gc8 := bx_cell hg9 8 rfl
    have oc0 := bx_cell hm9 0 rfl
    have oc1 := bx_cell hm9 1 rfl
    have oc2 := bx_cell hm9 2 rfl
    have oc3 := bx_cell hm9 3 rfl
    have oc4 := bx_cell hm9 4 rfl
    go_wp2_with (first | (go_at_call 16; refine HVL.out.mono ?_; rintro e w20 ⟨rfl, hb20⟩))
    go_ret
    exact ⟨rfl, (hG'.up hb20).b⟩
end Go.Proofs.Ytepbmgbomdekaaa
