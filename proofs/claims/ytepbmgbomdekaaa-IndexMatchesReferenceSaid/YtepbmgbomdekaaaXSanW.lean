/-
  The examples are true.
-/
import Derived.Test.YtepbmgbomdekaaaXSan
namespace Go.Proofs.Ytepbmgbomdekaaa
open Go Go.RowKit

abbrev MtS : PosS := ⟨[2, 1, 1], [0], [0], 0, 0⟩
/-- The box of the material. -/
structure SM (m N : Nat) (a a0 a1 : Option Addr) (d d0 d1 : Nat) (W : World) : Prop where
  hm : W.heap[m]? = some (.cells #[.slice a 3 d, .slice a0 1 d0, .slice a1 1 d1, .int .i64 0, .int .i64 0] 39 (0, 0))
  hn : N ≤ W.heap.size
  hp : PosIn N W a a0 a1 MtS
theorem SM.up {m N : Nat} {a a0 a1 : Option Addr} {d d0 d1 : Nat} {W W' : World} (h : SM m N a a0 a1 d d0 d1 W) (hb : Below W.heap.size W W') : SM m N a a0 a1 d d0 d1 W' := ⟨hp_up h.hm hb, Nat.le_trans h.hn hb.size, h.hp.up h.hn hb⟩
theorem posin_mono {n m : Nat} {W : World} {a a0 a1 : Option Addr} {p : PosS} (h : PosIn n W a a0 a1 p) (hm : n ≤ m) : PosIn m W a a0 a1 p := ⟨h.cells.mono hm, h.h0.mono hm, h.h1.mono hm⟩
theorem SM.kp {m N : Nat} {a a0 a1 : Option Addr} {d d0 d1 : Nat} {W : World} (h : SM m N a a0 a1 d d0 d1 W) : PosIn W.heap.size W a a0 a1 MtS := posin_mono h.hp h.hn
theorem fitM : PosFit MtS := ⟨by simp [maxLen], by simp [maxLen], by simp [maxLen]⟩
theorem fitZ : PosFit zeroP := ⟨by simp [maxLen, zeroP], by simp [maxLen, zeroP], by simp [maxLen, zeroP]⟩

/-- The box of the position that At gives. -/
structure SP (m N : Nat) (a a0 a1 : Option Addr) (d d0 d1 : Nat) (W : World) : Prop where
  hm : W.heap[m]? = some (.cells #[.slice a 4 d, .slice a0 1 d0, .slice a1 1 d1, .int .i64 0, .int .i64 0] 27 (0, 0))
  hn : N ≤ W.heap.size
  hp : PosIn N W a a0 a1 (P4 0 1 2 0)
theorem SP.up {m N : Nat} {a a0 a1 : Option Addr} {d d0 d1 : Nat} {W W' : World} (h : SP m N a a0 a1 d d0 d1 W) (hb : Below W.heap.size W W') : SP m N a a0 a1 d d0 d1 W' := ⟨hp_up h.hm hb, Nat.le_trans h.hn hb.size, h.hp.up h.hn hb⟩
section
variable {w : World} {g N : Nat} {an at_ ak : Option Addr} {ck : Nat} {W : World}
theorem sizezE (h : SG w g (G41 an at_ ak ck) N ak [true] W) :
    Calls Try.prog 14 #[.agg #[.int .i64 4, .slice an 1 1, .slice at_ 1 1, .slice ak 1 ck, .int .i64 2, .bool false, .slice none 0 0, .int .i64 3, .int .i64 2], .agg #[.slice none 0 0, .slice none 0 0, .slice none 0 0, .int .i64 0, .int .i64 0]] W fun e w' => e = .returned (.tuple #[.int .i64 0, .int .i64 140]) ∧ Below W.heap.size W w' :=
  sizeE (x := none) (x0 := none) (x1 := none) (c := 0) (c0 := 0) (c1 := 0) h fitZ (zero_in _ _) 0 140 e_sizez
theorem rankzE (h : SG w g (G41 an at_ ak ck) N ak [true] W) :
    Calls Try.prog 21 #[.agg #[.int .i64 4, .slice an 1 1, .slice at_ 1 1, .slice ak 1 ck, .int .i64 2, .bool false, .slice none 0 0, .int .i64 3, .int .i64 2], .agg #[.slice none 0 0, .slice none 0 0, .slice none 0 0, .int .i64 0, .int .i64 0]] W fun e w' => e = .returned (.tuple #[.int .i64 0, .int .i64 40]) ∧ Below W.heap.size W w' :=
  rankE (x := none) (x0 := none) (x1 := none) (c := 0) (c0 := 0) (c1 := 0) h fitZ (zero_in _ _) 0 40 e_rankz
theorem at3E (h : SG w g (G41 an at_ ak ck) N ak [true] W) {x x0 x1 : Option Addr} {d d0 d1 : Nat} (hP : PosIn W.heap.size W x x0 x1 MtS) :
    Calls Try.prog 18 #[.agg #[.int .i64 4, .slice an 1 1, .slice at_ 1 1, .slice ak 1 ck, .int .i64 2, .bool false, .slice none 0 0, .int .i64 3, .int .i64 2], .agg #[.slice x 3 d, .slice x0 1 d0, .slice x1 1 d1, .int .i64 0, .int .i64 0], .int .i64 3] W fun e w' => ∃ a a0 a1 d d0 d1, e = .returned (.tuple #[.agg #[.slice a 4 d, .slice a0 1 d0, .slice a1 1 d1, .int .i64 0, .int .i64 0], .int .i64 0]) ∧ PosIn w'.heap.size w' a a0 a1 (P4 0 1 2 0) ∧ Below W.heap.size W w' :=
  atE (c := d) (c0 := d0) (c1 := d1) h fitM hP 3 (P4 0 1 2 0) 0 e_at3
theorem at12E (h : SG w g (G41 an at_ ak ck) N ak [true] W) {x x0 x1 : Option Addr} {d d0 d1 : Nat} (hP : PosIn W.heap.size W x x0 x1 MtS) :
    Calls Try.prog 18 #[.agg #[.int .i64 4, .slice an 1 1, .slice at_ 1 1, .slice ak 1 ck, .int .i64 2, .bool false, .slice none 0 0, .int .i64 3, .int .i64 2], .agg #[.slice x 3 d, .slice x0 1 d0, .slice x1 1 d1, .int .i64 0, .int .i64 0], .int .i64 12] W fun e w' => ∃ a a0 a1 d d0 d1, e = .returned (.tuple #[.agg #[.slice a 0 d, .slice a0 0 d0, .slice a1 0 d1, .int .i64 0, .int .i64 0], .int .i64 140]) ∧ PosIn w'.heap.size w' a a0 a1 zeroP ∧ Below W.heap.size W w' :=
  atE (c := d) (c0 := d0) (c1 := d1) h fitM hP 12 zeroP 140 e_at12
theorem atmE (h : SG w g (G41 an at_ ak ck) N ak [true] W) {x x0 x1 : Option Addr} {d d0 d1 : Nat} (hP : PosIn W.heap.size W x x0 x1 MtS) :
    Calls Try.prog 18 #[.agg #[.int .i64 4, .slice an 1 1, .slice at_ 1 1, .slice ak 1 ck, .int .i64 2, .bool false, .slice none 0 0, .int .i64 3, .int .i64 2], .agg #[.slice x 3 d, .slice x0 1 d0, .slice x1 1 d1, .int .i64 0, .int .i64 0], .int .i64 (-1)] W fun e w' => ∃ a a0 a1 d d0 d1, e = .returned (.tuple #[.agg #[.slice a 0 d, .slice a0 0 d0, .slice a1 0 d1, .int .i64 0, .int .i64 0], .int .i64 140]) ∧ PosIn w'.heap.size w' a a0 a1 zeroP ∧ Below W.heap.size W w' :=
  atE (c := d) (c0 := d0) (c1 := d1) h fitM hP (-1) zeroP 140 e_atm
end
set_option maxRecDepth 100000 in
set_option maxHeartbeats 8000000 in
theorem sanity_any (w : World) : Calls Try.prog 9 #[] w fun e w' => e = .returned (.bool true) ∧ Below w.heap.size w w' := by
  have HB : Calls Try.prog 24 #[.int .i64 4, .int .i64 1] w fun e w' => ∃ an at_ ak ck, e = .returned (.agg #[.int .i64 4, .slice an 1 1, .slice at_ 1 1, .slice ak 1 ck, .int .i64 2, .bool false, .slice none 0 0, .int .i64 3, .int .i64 2]) ∧ Keeps w'.heap.size w' ak [true] ∧ Below w.heap.size w w' := blank_any 4 1 w (by omega) (by omega) (by omega)
  have HB := Lib.hid HB
  go_enter Try.func9, Try.ntmps9
  go_upto_region 2 with (go_at_call 24; refine HB.out.mono ?_; rintro e w1 ⟨an, at_, ak, ck, rfl, hk1, hb1⟩)
  have hg2 := World.alloc_heap_new w1 (.cells #[.int .i64 4, .slice an 1 1, .slice at_ 1 1, .slice ak 1 ck, .int .i64 2, .bool false, .slice none 0 0, .int .i64 3, .int .i64 2] 35)
  have hb2 : Below w1.heap.size w1 (w1.alloc (.cells #[.int .i64 4, .slice an 1 1, .slice at_ 1 1, .slice ak 1 ck, .int .i64 2, .bool false, .slice none 0 0, .int .i64 3, .int .i64 2] 35)) := below_alloc (Below.refl _ _) _
  have hG2 : SG w w1.heap.size (G41 an at_ ak ck) w1.heap.size ak [true] (w1.alloc (.cells #[.int .i64 4, .slice an 1 1, .slice at_ 1 1, .slice ak 1 ck, .int .i64 2, .bool false, .slice none 0 0, .int .i64 3, .int .i64 2] 35)) := ⟨below_step hb1 hb2, hg2, hb2.size, hk1.below hb2⟩
  clear hg2 hb2 hk1 hb1 HB
  generalize w1.alloc (.cells #[.int .i64 4, .slice an 1 1, .slice at_ 1 1, .slice ak 1 ck, .int .i64 2, .bool false, .slice none 0 0, .int .i64 3, .int .i64 2] 35) = w2 at *
  generalize w1.heap.size = g at *
  go_cut [2] (fun v wx => ∃ m N a a0 a1 d d0 d1, v = .pointer (some ⟨m, 0, none⟩) ∧ SM m N a a0 a1 d d0 d1 wx ∧ SG w g (G41 an at_ ak ck) g ak [true] wx)
  case first =>
    have hGd := hG2.up (Below.refl w2.heap.size w2).drew
    refine wp_region_held_drew (S := SG w g (G41 an at_ ak ck) g ak [true]) (by kernel_rfl) hGd (fun hSwD => ?_)
    clear hG2 hGd
    generalize w2.drew = wD at *
    refine TX 0 (YL rfl 35 _ rfl g 0 rfl _ (G41 an at_ ak ck) _ _ (fun _ h => h.hg) rfl Try.underlying35 rfl info_game) ?_
    (try simp only [pS])
    refine wpAnyH_ready (rs := [1, 3]) (by kernel_rfl) (by simp) ?_
    refine AC (i := 1) (fun K hK => ?_) ?_
    · refine step_call_h rfl 30 _ _ #[.int .i64 0, .int .i64 1, .int .i64 0, .int .i64 2] rfl rfl (enters_of Try.func30 (by kernel_rfl) rfl) ((place_any 0 1 0 2 wD).mono ?_)
      rintro e wa ⟨x, x0, x1, rfl, hpwa, hbwa⟩
      have hSwa := hSwD.up hbwa
      refine ⟨_, rfl, hK.out _ _ hSwa (fun _ => ?_)⟩
      clear hK K
      (try simp only [pS])
      refine wpAnyH_ready (rs := [2, 3]) (by kernel_rfl) (by simp) ?_
      refine AC (i := 2) (fun K hK => ?_) ?_
      · refine step_call_h rfl 11 _ _ #[.agg #[.int .i64 4, .slice an 1 1, .slice at_ 1 1, .slice ak 1 ck, .int .i64 2, .bool false, .slice none 0 0, .int .i64 3, .int .i64 2], PosV x x0 x1 4 1 1 (P4 0 1 0 2)] rfl rfl (enters_of Try.func11 (by kernel_rfl) rfl) ((ofE hpwa).mono ?_)
        rintro e wb ⟨a, a0, a1, d, d0, d1, rfl, howb, hbwb⟩
        have hSwb := hSwa.up hbwb
        refine ⟨_, rfl, hK.out _ _ hSwb (fun _ => ?_)⟩
        clear hK K
        (try simp only [pS])
        refine wpAnyH_ready (rs := [3]) (by kernel_rfl) (by simp) ?_
        refine AC (i := 3) (fun K hK => ?_) AllReadyH.nil
        refine step_al rfl (cs := #[.slice none 0 0, .slice none 0 0, .slice none 0 0, .int .i64 0, .int .i64 0]) (t := 39) (by go_simp; try rfl) ?_
        have hbwc : Below wb.heap.size wb (wb.alloc (.cells #[.slice none 0 0, .slice none 0 0, .slice none 0 0, .int .i64 0, .int .i64 0] 39)) := below_alloc (Below.refl _ _) _
        have hzwc := World.alloc_heap_new wb (.cells #[.slice none 0 0, .slice none 0 0, .slice none 0 0, .int .i64 0, .int .i64 0] 39)
        have hSwc := hSwb.up hbwc
        refine hK.out _ _ hSwc (fun _ => ?_)
        clear hK K
        (try simp only [pS])
        generalize wb.alloc (.cells #[.slice none 0 0, .slice none 0 0, .slice none 0 0, .int .i64 0, .int .i64 0] 39) = wc at *
        have hzz := hzwc
        have hoo := (howb).upx hbwc
        refine wpAnyH_ready (rs := [4]) (by kernel_rfl) (by simp) ?_
        refine AC (i := 4) (fun K hK => ?_) AllReadyH.nil
        refine step_store_rw rfl 39 _ _ rfl _ #[.slice a 3 d, .slice a0 1 d0, .slice a1 1 d1, .int .i64 0, .int .i64 0] rfl rfl 39 _ hzz info_mat rfl (by simp [Value.oneCell']) ?_
        have hoR := POwn.row (cs := #[.slice a 3 d, .slice a0 1 d0, .slice a1 1 d1, .int .i64 0, .int .i64 0]) hoo hzz (by decide)
        have hSR := hSwc.row (B := wb.heap.size) (cs := #[.slice a 3 d, .slice a0 1 d0, .slice a1 1 d1, .int .i64 0, .int .i64 0]) (by first | exact Nat.le_refl _ | exact hbwa.size | exact Nat.le_trans hbwa.size hbwb.size) hSwD
        have hXR := setRow_heap wc _ _ #[.slice a 3 d, .slice a0 1 d0, .slice a1 1 d1, .int .i64 0, .int .i64 0] _ _ hzz
        refine hK.out _ _ hSR (fun _ => ?_)
        clear hK K
        refine wpAnyH_done (by kernel_rfl) ?_ _
        go_wp2_with fail
        go_meet
        case rel => exact ⟨_, _, a, a0, a1, d, d0, d1, rfl, ⟨hXR, Nat.le_refl _, hoR.pin⟩, hSR⟩
      refine AC (i := 3) (fun K hK => ?_) AllReadyH.nil
      refine step_al rfl (cs := #[.slice none 0 0, .slice none 0 0, .slice none 0 0, .int .i64 0, .int .i64 0]) (t := 39) (by go_simp; try rfl) ?_
      have hbwb : Below wa.heap.size wa (wa.alloc (.cells #[.slice none 0 0, .slice none 0 0, .slice none 0 0, .int .i64 0, .int .i64 0] 39)) := below_alloc (Below.refl _ _) _
      have hzwb := World.alloc_heap_new wa (.cells #[.slice none 0 0, .slice none 0 0, .slice none 0 0, .int .i64 0, .int .i64 0] 39)
      have hSwb := hSwa.up hbwb
      refine hK.out _ _ hSwb (fun _ => ?_)
      clear hK K
      (try simp only [pS])
      generalize wa.alloc (.cells #[.slice none 0 0, .slice none 0 0, .slice none 0 0, .int .i64 0, .int .i64 0] 39) = wb at *
      refine wpAnyH_ready (rs := [2]) (by kernel_rfl) (by simp) ?_
      refine AC (i := 2) (fun K hK => ?_) AllReadyH.nil
      refine step_call_h rfl 11 _ _ #[.agg #[.int .i64 4, .slice an 1 1, .slice at_ 1 1, .slice ak 1 ck, .int .i64 2, .bool false, .slice none 0 0, .int .i64 3, .int .i64 2], PosV x x0 x1 4 1 1 (P4 0 1 0 2)] rfl rfl (enters_of Try.func11 (by kernel_rfl) rfl) ((ofE (posin_mono (hpwa.up (Nat.le_refl _) hbwb) hbwb.size)).mono ?_)
      rintro e wc ⟨a, a0, a1, d, d0, d1, rfl, howc, hbwc⟩
      have hSwc := hSwb.up hbwc
      refine ⟨_, rfl, hK.out _ _ hSwc (fun _ => ?_)⟩
      clear hK K
      (try simp only [pS])
      have hzz := hp_up hzwb hbwc
      have hoo := howc
      refine wpAnyH_ready (rs := [4]) (by kernel_rfl) (by simp) ?_
      refine AC (i := 4) (fun K hK => ?_) AllReadyH.nil
      refine step_store_rw rfl 39 _ _ rfl _ #[.slice a 3 d, .slice a0 1 d0, .slice a1 1 d1, .int .i64 0, .int .i64 0] rfl rfl 39 _ hzz info_mat rfl (by simp [Value.oneCell']) ?_
      have hoR := POwn.row (cs := #[.slice a 3 d, .slice a0 1 d0, .slice a1 1 d1, .int .i64 0, .int .i64 0]) hoo hzz (by decide)
      have hSR := hSwc.row (B := wa.heap.size) (cs := #[.slice a 3 d, .slice a0 1 d0, .slice a1 1 d1, .int .i64 0, .int .i64 0]) (by first | exact Nat.le_refl _ | exact hbwa.size | exact Nat.le_trans hbwa.size hbwb.size) hSwD
      have hXR := setRow_heap wc _ _ #[.slice a 3 d, .slice a0 1 d0, .slice a1 1 d1, .int .i64 0, .int .i64 0] _ _ hzz
      refine hK.out _ _ hSR (fun _ => ?_)
      clear hK K
      refine wpAnyH_done (by kernel_rfl) ?_ _
      go_wp2_with fail
      go_meet
      case rel => exact ⟨_, _, a, a0, a1, d, d0, d1, rfl, ⟨hXR, Nat.le_refl _, hoR.pin⟩, hSR⟩
    refine AC (i := 3) (fun K hK => ?_) AllReadyH.nil
    refine step_al rfl (cs := #[.slice none 0 0, .slice none 0 0, .slice none 0 0, .int .i64 0, .int .i64 0]) (t := 39) (by go_simp; try rfl) ?_
    have hbwa : Below wD.heap.size wD (wD.alloc (.cells #[.slice none 0 0, .slice none 0 0, .slice none 0 0, .int .i64 0, .int .i64 0] 39)) := below_alloc (Below.refl _ _) _
    have hzwa := World.alloc_heap_new wD (.cells #[.slice none 0 0, .slice none 0 0, .slice none 0 0, .int .i64 0, .int .i64 0] 39)
    have hSwa := hSwD.up hbwa
    refine hK.out _ _ hSwa (fun _ => ?_)
    clear hK K
    (try simp only [pS])
    generalize wD.alloc (.cells #[.slice none 0 0, .slice none 0 0, .slice none 0 0, .int .i64 0, .int .i64 0] 39) = wa at *
    refine wpAnyH_ready (rs := [1]) (by kernel_rfl) (by simp) ?_
    refine AC (i := 1) (fun K hK => ?_) AllReadyH.nil
    refine step_call_h rfl 30 _ _ #[.int .i64 0, .int .i64 1, .int .i64 0, .int .i64 2] rfl rfl (enters_of Try.func30 (by kernel_rfl) rfl) ((place_any 0 1 0 2 wa).mono ?_)
    rintro e wb ⟨x, x0, x1, rfl, hpwb, hbwb⟩
    have hSwb := hSwa.up hbwb
    refine ⟨_, rfl, hK.out _ _ hSwb (fun _ => ?_)⟩
    clear hK K
    (try simp only [pS])
    refine wpAnyH_ready (rs := [2]) (by kernel_rfl) (by simp) ?_
    refine AC (i := 2) (fun K hK => ?_) AllReadyH.nil
    refine step_call_h rfl 11 _ _ #[.agg #[.int .i64 4, .slice an 1 1, .slice at_ 1 1, .slice ak 1 ck, .int .i64 2, .bool false, .slice none 0 0, .int .i64 3, .int .i64 2], PosV x x0 x1 4 1 1 (P4 0 1 0 2)] rfl rfl (enters_of Try.func11 (by kernel_rfl) rfl) ((ofE hpwb).mono ?_)
    rintro e wc ⟨a, a0, a1, d, d0, d1, rfl, howc, hbwc⟩
    have hSwc := hSwb.up hbwc
    refine ⟨_, rfl, hK.out _ _ hSwc (fun _ => ?_)⟩
    clear hK K
    (try simp only [pS])
    have hzz := hp_up (hp_up hzwa hbwb) hbwc
    have hoo := howc
    refine wpAnyH_ready (rs := [4]) (by kernel_rfl) (by simp) ?_
    refine AC (i := 4) (fun K hK => ?_) AllReadyH.nil
    refine step_store_rw rfl 39 _ _ rfl _ #[.slice a 3 d, .slice a0 1 d0, .slice a1 1 d1, .int .i64 0, .int .i64 0] rfl rfl 39 _ hzz info_mat rfl (by simp [Value.oneCell']) ?_
    have hoR := POwn.row (cs := #[.slice a 3 d, .slice a0 1 d0, .slice a1 1 d1, .int .i64 0, .int .i64 0]) hoo hzz (by decide)
    have hSR := hSwc.row (B := wD.heap.size) (cs := #[.slice a 3 d, .slice a0 1 d0, .slice a1 1 d1, .int .i64 0, .int .i64 0]) (by first | exact Nat.le_refl _ | exact hbwa.size | exact Nat.le_trans hbwa.size hbwb.size) hSwD
    have hXR := setRow_heap wc _ _ #[.slice a 3 d, .slice a0 1 d0, .slice a1 1 d1, .int .i64 0, .int .i64 0] _ _ hzz
    refine hK.out _ _ hSR (fun _ => ?_)
    clear hK K
    refine wpAnyH_done (by kernel_rfl) ?_ _
    go_wp2_with fail
    go_meet
    case rel => exact ⟨_, _, a, a0, a1, d, d0, d1, rfl, ⟨hXR, Nat.le_refl _, hoR.pin⟩, hSR⟩
  case rest =>
    obtain ⟨m, N, a, a0, a1, d, d0, d1, rfl, hM, hG⟩ := hcut
    clear hG2
    obtain ⟨hb3, n0, n1, n2, -⟩ := three_boxes wc #[.int .i64 2, .int .i64 1, .int .i64 1] #[.int .i64 0] #[.int .i64 0] 3 3 3
    have hM3 := hM.up hb3
    have HSM := Lib.hid (same_any MtS MtS a a0 a1 (some ⟨wc.heap.size, 0, none⟩) (some ⟨wc.heap.size + 1, 0, none⟩) (some ⟨wc.heap.size + 1 + 1, 0, none⟩) d d0 d1 3 1 1 _ (((wc.alloc (.cells #[.int .i64 2, .int .i64 1, .int .i64 1] 3)).alloc (.cells #[.int .i64 0] 3)).alloc (.cells #[.int .i64 0] 3)) fitM (Nat.le_refl _) hM3.kp ⟨ints_lit n0 [2, 1, 1] rfl, ints_lit n1 [0] rfl, ints_lit n2 [0] rfl⟩)
    rw [eqB_self] at HSM
    have hm9 := hM.hm
    clear n0 n1 n2
    go_upto_region 5 with (first | (refine wpList_load_row rfl 39 (.tmp 2) rfl m rfl 39 _ (0, 0) _ hm9 Try.underlying39 rfl info_mat ?_) | (go_at_call 12; refine HSM.out.mono ?_; rintro e w3 ⟨rfl, hb4⟩))
    have hG3 := (hG.up hb3).up hb4
    have hM4 := hM3.up hb4
    clear HSM hm9 hM hG hM3 hb3 hb4
    have hG := hG3
    have hM := hM4
    clear hG3 hM4
    have hg9 := hG.hg
    have hm9 := hM.hm
    have HSZ := Lib.hid (sizeE (c := d) (c0 := d0) (c1 := d1) hG fitM hM.kp 12 0 e_size)
    go_upto_region 6 with (first | (refine wpList_load_row rfl 35 (.tmp 1) rfl g rfl 35 _ (0, 0) _ hg9 Try.underlying35 rfl info_game ?_) | (refine wpList_load_row rfl 39 (.tmp 2) rfl m rfl 39 _ (0, 0) _ hm9 Try.underlying39 rfl info_mat ?_) | (go_at_call 14; refine HSZ.out.mono ?_; rintro e w4 ⟨rfl, hb4⟩))
    replace hG := hG.up hb4
    replace hM := hM.up hb4
    clear HSZ hb4
    clear hg9 hm9
    have hGd := hG.up (Below.refl w4.heap.size w4).drew
    have hMd := hM.up (Below.refl w4.heap.size w4).drew
    refine wp_region_held_drew (S := SG w g (G41 an at_ ak ck) g ak [true]) (by kernel_rfl) hGd (fun hSwD => ?_)
    clear hG hM
    generalize w4.drew = wD at *
    refine TX 0 (YL rfl 35 _ rfl g 0 rfl _ (G41 an at_ ak ck) _ _ (fun _ h => h.hg) rfl Try.underlying35 rfl info_game) ?_
    (try simp only [pS])
    refine wpAnyH_ready (rs := [1]) (by kernel_rfl) (by simp) ?_
    refine AC (i := 1) (fun K hK => ?_) AllReadyH.nil
    refine step_call_h rfl 30 _ _ #[.int .i64 0, .int .i64 0, .int .i64 1, .int .i64 2] rfl rfl (enters_of Try.func30 (by kernel_rfl) rfl) ((place_any 0 0 1 2 wD).mono ?_)
    rintro e wa ⟨x, x0, x1, rfl, hpa, hba⟩
    have hSa := hSwD.up hba
    refine ⟨_, rfl, hK.out _ _ hSa (fun _ => ?_)⟩
    clear hK K
    (try simp only [pS])
    refine wpAnyH_ready (rs := [2]) (by kernel_rfl) (by simp) ?_
    refine AC (i := 2) (fun K hK => ?_) AllReadyH.nil
    refine step_call_h rfl 21 _ _ #[.agg #[.int .i64 4, .slice an 1 1, .slice at_ 1 1, .slice ak 1 ck, .int .i64 2, .bool false, .slice none 0 0, .int .i64 3, .int .i64 2], PosV x x0 x1 4 1 1 (P4 0 0 1 2)] rfl rfl (enters_of Try.func21 (by kernel_rfl) rfl) ((rankE hSa (fit4 _ _ _ _) hpa 0 0 e_rank0).mono ?_)
    rintro e w5 ⟨rfl, hbb⟩
    have hSb := hSa.up hbb
    refine ⟨_, rfl, hK.out _ _ hSb (fun _ => ?_)⟩
    clear hK K
    (try simp only [pS])
    refine TK 3 ?_
    (try simp only [pS])
    refine TK 4 ?_
    (try simp only [pS])
    refine TK 5 ?_
    (try simp only [pS])
    refine TK 6 ?_
    (try simp only [pS])
    refine TK 7 ?_
    (try simp only [pS])
    refine wpAnyH_done (by kernel_rfl) ?_ _
    have hM := (hMd.up hba).up hbb
    have hG := hSb
    clear hSa hSwD hSb hMd hGd hpa hba hbb
    go_upto_region 7 with (fail)
    have hGd := hG.up (Below.refl w5.heap.size w5).drew
    have hMd := hM.up (Below.refl w5.heap.size w5).drew
    refine wp_region_held_drew (S := SG w g (G41 an at_ ak ck) g ak [true]) (by kernel_rfl) hGd (fun hSwD => ?_)
    clear hG hM
    generalize w5.drew = wD at *
    refine TX 0 (YL rfl 35 _ rfl g 0 rfl _ (G41 an at_ ak ck) _ _ (fun _ h => h.hg) rfl Try.underlying35 rfl info_game) ?_
    (try simp only [pS])
    refine wpAnyH_ready (rs := [1]) (by kernel_rfl) (by simp) ?_
    refine AC (i := 1) (fun K hK => ?_) AllReadyH.nil
    refine step_call_h rfl 30 _ _ #[.int .i64 0, .int .i64 1, .int .i64 0, .int .i64 2] rfl rfl (enters_of Try.func30 (by kernel_rfl) rfl) ((place_any 0 1 0 2 wD).mono ?_)
    rintro e wa ⟨x, x0, x1, rfl, hpa, hba⟩
    have hSa := hSwD.up hba
    refine ⟨_, rfl, hK.out _ _ hSa (fun _ => ?_)⟩
    clear hK K
    (try simp only [pS])
    refine wpAnyH_ready (rs := [2]) (by kernel_rfl) (by simp) ?_
    refine AC (i := 2) (fun K hK => ?_) AllReadyH.nil
    refine step_call_h rfl 21 _ _ #[.agg #[.int .i64 4, .slice an 1 1, .slice at_ 1 1, .slice ak 1 ck, .int .i64 2, .bool false, .slice none 0 0, .int .i64 3, .int .i64 2], PosV x x0 x1 4 1 1 (P4 0 1 0 2)] rfl rfl (enters_of Try.func21 (by kernel_rfl) rfl) ((rankE hSa (fit4 _ _ _ _) hpa 2 0 e_rank2).mono ?_)
    rintro e w6 ⟨rfl, hbb⟩
    have hSb := hSa.up hbb
    refine ⟨_, rfl, hK.out _ _ hSb (fun _ => ?_)⟩
    clear hK K
    (try simp only [pS])
    refine TK 3 ?_
    (try simp only [pS])
    refine TK 4 ?_
    (try simp only [pS])
    refine TK 5 ?_
    (try simp only [pS])
    refine TK 6 ?_
    (try simp only [pS])
    refine TK 7 ?_
    (try simp only [pS])
    refine wpAnyH_done (by kernel_rfl) ?_ _
    have hM := (hMd.up hba).up hbb
    have hG := hSb
    clear hSa hSwD hSb hMd hGd hpa hba hbb
    go_upto_region 8 with (fail)
    have hGd := hG.up (Below.refl w6.heap.size w6).drew
    have hMd := hM.up (Below.refl w6.heap.size w6).drew
    refine wp_region_held_drew (S := SG w g (G41 an at_ ak ck) g ak [true]) (by kernel_rfl) hGd (fun hSwD => ?_)
    clear hG hM
    generalize w6.drew = wD at *
    refine TX 0 (YL rfl 35 _ rfl g 0 rfl _ (G41 an at_ ak ck) _ _ (fun _ h => h.hg) rfl Try.underlying35 rfl info_game) ?_
    (try simp only [pS])
    refine wpAnyH_ready (rs := [1]) (by kernel_rfl) (by simp) ?_
    refine AC (i := 1) (fun K hK => ?_) AllReadyH.nil
    refine step_call_h rfl 30 _ _ #[.int .i64 2, .int .i64 1, .int .i64 0, .int .i64 0] rfl rfl (enters_of Try.func30 (by kernel_rfl) rfl) ((place_any 2 1 0 0 wD).mono ?_)
    rintro e wa ⟨x, x0, x1, rfl, hpa, hba⟩
    have hSa := hSwD.up hba
    refine ⟨_, rfl, hK.out _ _ hSa (fun _ => ?_)⟩
    clear hK K
    (try simp only [pS])
    refine wpAnyH_ready (rs := [2]) (by kernel_rfl) (by simp) ?_
    refine AC (i := 2) (fun K hK => ?_) AllReadyH.nil
    refine step_call_h rfl 21 _ _ #[.agg #[.int .i64 4, .slice an 1 1, .slice at_ 1 1, .slice ak 1 ck, .int .i64 2, .bool false, .slice none 0 0, .int .i64 3, .int .i64 2], PosV x x0 x1 4 1 1 (P4 2 1 0 0)] rfl rfl (enters_of Try.func21 (by kernel_rfl) rfl) ((rankE hSa (fit4 _ _ _ _) hpa 11 0 e_rank11).mono ?_)
    rintro e w7 ⟨rfl, hbb⟩
    have hSb := hSa.up hbb
    refine ⟨_, rfl, hK.out _ _ hSb (fun _ => ?_)⟩
    clear hK K
    (try simp only [pS])
    refine TK 3 ?_
    (try simp only [pS])
    refine TK 4 ?_
    (try simp only [pS])
    refine TK 5 ?_
    (try simp only [pS])
    refine TK 6 ?_
    (try simp only [pS])
    refine TK 7 ?_
    (try simp only [pS])
    refine wpAnyH_done (by kernel_rfl) ?_ _
    have hM := (hMd.up hba).up hbb
    have hG := hSb
    clear hSa hSwD hSb hMd hGd hpa hba hbb
    go_upto_region 9 with (fail)
    have hg9 := hG.hg
    have hm9 := hM.hm
    have HAT := Lib.hid (at3E (d := d) (d0 := d0) (d1 := d1) hG hM.kp)
    go_upto_region 10 with (first | (refine wpList_load_row rfl 35 (.tmp 1) rfl g rfl 35 _ (0, 0) _ hg9 Try.underlying35 rfl info_game ?_) | (refine wpList_load_row rfl 39 (.tmp 2) rfl m rfl 39 _ (0, 0) _ hm9 Try.underlying39 rfl info_mat ?_) | (go_at_call 18; refine HAT.out.mono ?_; rintro e w8a ⟨y9, z9, u9, f9, f90, f91, rfl, hp9, hb4⟩))
    replace hG := hG.up hb4
    replace hM := hM.up hb4
    have hb5 : Below w8a.heap.size w8a (w8a.alloc (.cells #[.slice y9 4 f9, .slice z9 1 f90, .slice u9 1 f91, .int .i64 0, .int .i64 0] 27)) := below_alloc (Below.refl _ _) _
    have hx9 := World.alloc_heap_new w8a (.cells #[.slice y9 4 f9, .slice z9 1 f90, .slice u9 1 f91, .int .i64 0, .int .i64 0] 27)
    replace hp9 := hp9.up (Nat.le_refl _) hb5
    replace hG := hG.up hb5
    replace hM := hM.up hb5
    have hl9 := hb5.size
    clear HAT hb4 hg9 hm9
    clear hb5
    generalize w8a.alloc (.cells #[.slice y9 4 f9, .slice z9 1 f90, .slice u9 1 f91, .int .i64 0, .int .i64 0] 27) = w8 at *
    generalize w8a.heap.size = m9 at *
    have HP := Lib.hid (show SP m9 m9 y9 z9 u9 f9 f90 f91 w8 from ⟨hx9, hl9, hp9⟩)
    clear hx9 hl9 hp9
    have hg9 := hG.hg
    have hm9 := hM.hm
    have HAT := Lib.hid (at12E (d := d) (d0 := d0) (d1 := d1) hG hM.kp)
    go_upto_region 11 with (first | (refine wpList_load_row rfl 35 (.tmp 1) rfl g rfl 35 _ (0, 0) _ hg9 Try.underlying35 rfl info_game ?_) | (refine wpList_load_row rfl 39 (.tmp 2) rfl m rfl 39 _ (0, 0) _ hm9 Try.underlying39 rfl info_mat ?_) | (go_at_call 18; refine HAT.out.mono ?_; rintro e w9a ⟨y10, z10, u10, f10, f100, f101, rfl, hp10, hb4⟩))
    replace hG := hG.up hb4
    replace hM := hM.up hb4
    have hb5 : Below w9a.heap.size w9a (w9a.alloc (.cells #[.slice y10 0 f10, .slice z10 0 f100, .slice u10 0 f101, .int .i64 0, .int .i64 0] 27)) := below_alloc (Below.refl _ _) _
    have hx10 := World.alloc_heap_new w9a (.cells #[.slice y10 0 f10, .slice z10 0 f100, .slice u10 0 f101, .int .i64 0, .int .i64 0] 27)
    replace hp10 := hp10.up (Nat.le_refl _) hb5
    replace hG := hG.up hb5
    replace hM := hM.up hb5
    have hl10 := hb5.size
    replace HP := Lib.hid ((HP.out.up hb4).up hb5)
    clear HAT hb4 hg9 hm9
    clear hb5
    generalize w9a.alloc (.cells #[.slice y10 0 f10, .slice z10 0 f100, .slice u10 0 f101, .int .i64 0, .int .i64 0] 27) = w9 at *
    generalize w9a.heap.size = m10 at *
    clear hx10 hp10 hl10
    have hg9 := hG.hg
    have hm9 := hM.hm
    have HAT := Lib.hid (atmE (d := d) (d0 := d0) (d1 := d1) hG hM.kp)
    go_upto_region 12 with (first | (refine wpList_load_row rfl 35 (.tmp 1) rfl g rfl 35 _ (0, 0) _ hg9 Try.underlying35 rfl info_game ?_) | (refine wpList_load_row rfl 39 (.tmp 2) rfl m rfl 39 _ (0, 0) _ hm9 Try.underlying39 rfl info_mat ?_) | (go_at_call 18; refine HAT.out.mono ?_; rintro e w10a ⟨y11, z11, u11, f11, f110, f111, rfl, hp11, hb4⟩))
    replace hG := hG.up hb4
    replace hM := hM.up hb4
    have hb5 : Below w10a.heap.size w10a (w10a.alloc (.cells #[.slice y11 0 f11, .slice z11 0 f110, .slice u11 0 f111, .int .i64 0, .int .i64 0] 27)) := below_alloc (Below.refl _ _) _
    have hx11 := World.alloc_heap_new w10a (.cells #[.slice y11 0 f11, .slice z11 0 f110, .slice u11 0 f111, .int .i64 0, .int .i64 0] 27)
    replace hp11 := hp11.up (Nat.le_refl _) hb5
    replace hG := hG.up hb5
    replace hM := hM.up hb5
    have hl11 := hb5.size
    replace HP := Lib.hid ((HP.out.up hb4).up hb5)
    clear HAT hb4 hg9 hm9
    clear hb5
    generalize w10a.alloc (.cells #[.slice y11 0 f11, .slice z11 0 f110, .slice u11 0 f111, .int .i64 0, .int .i64 0] 27) = w10 at *
    generalize w10a.heap.size = m11 at *
    clear hx11 hp11 hl11
    have hg9 := hG.hg
    have HZ := Lib.hid (sizezE hG)
    go_upto_region 13 with (first | (refine wpList_load_row rfl 35 (.tmp 1) rfl g rfl 35 _ (0, 0) _ hg9 Try.underlying35 rfl info_game ?_) | (go_at_call 14; refine HZ.out.mono ?_; rintro e w11 ⟨rfl, hb4⟩))
    replace hG := hG.up hb4
    replace hM := hM.up hb4
    replace HP := Lib.hid (HP.out.up hb4)
    clear HZ hb4 hg9
    have hg9 := hG.hg
    have HZ := Lib.hid (rankzE hG)
    go_upto_region 14 with (first | (refine wpList_load_row rfl 35 (.tmp 1) rfl g rfl 35 _ (0, 0) _ hg9 Try.underlying35 rfl info_game ?_) | (go_at_call 21; refine HZ.out.mono ?_; rintro e w12 ⟨rfl, hb4⟩))
    replace hG := hG.up hb4
    replace hM := hM.up hb4
    replace HP := Lib.hid (HP.out.up hb4)
    clear HZ hb4 hg9
    go_upto_region 15 with (fail)
    have hGd := hG.up (Below.refl w12.heap.size w12).drew
    have hMd := hM.up (Below.refl w12.heap.size w12).drew
    have hPd := HP.out.up (Below.refl w12.heap.size w12).drew
    refine wp_region_held_drew (S := fun W => SG w g (G41 an at_ ak ck) g ak [true] W ∧ SM m N a a0 a1 d d0 d1 W ∧ SP m9 m9 y9 z9 u9 f9 f90 f91 W) (by kernel_rfl) ⟨hGd, hMd, hPd⟩ (fun hS => ?_)
    clear hG hM HP hGd hMd hPd
    generalize w12.drew = wD at *
    refine TK 0 ?_
    (try simp only [pS])
    refine TK 1 ?_
    (try simp only [pS])
    refine TX 2 (YL rfl 27 _ rfl m9 0 rfl _ [.slice y9 4 f9, .slice z9 1 f90, .slice u9 1 f91, .int .i64 0, .int .i64 0] _ _ (fun _ h => h.2.2.hm) rfl Try.underlying27 rfl info_pos) ?_
    (try simp only [pS])
    refine wpAnyH_ready (rs := [3]) (by kernel_rfl) (by simp) ?_
    refine AC (i := 3) (fun K hK => ?_) AllReadyH.nil
    refine step_call_h rfl 30 _ _ #[.int .i64 0, .int .i64 1, .int .i64 2, .int .i64 0] rfl rfl (enters_of Try.func30 (by kernel_rfl) rfl) ((place_any 0 1 2 0 wD).mono ?_)
    rintro e wa ⟨x, x0, x1, rfl, hpa, hba⟩
    have hSa := And.intro (hS.1.up hba) (And.intro (hS.2.1.up hba) (hS.2.2.up hba))
    refine ⟨_, rfl, hK.out _ _ hSa (fun _ => ?_)⟩
    clear hK K
    (try simp only [pS])
    have HCM := rcompare_any ⟨P4 0 1 2 0, y9, z9, u9, f9, f90, f91⟩ ⟨P4 0 1 2 0, x, x0, x1, 4, 1, 1⟩ wa.heap.size wa ⟨fit4 _ _ _ _, posin_mono hSa.2.2.hp hSa.2.2.hn⟩ ⟨fit4 _ _ _ _, hpa⟩ (Nat.le_refl _)
    rw [show cmpP (P4 0 1 2 0) (P4 0 1 2 0) = 0 from rfl] at HCM
    refine wpAnyH_ready (rs := [4]) (by kernel_rfl) (by simp) ?_
    refine AC (i := 4) (fun K hK => ?_) AllReadyH.nil
    refine step_call_h rfl 20 _ _ #[.agg #[.slice y9 4 f9, .slice z9 1 f90, .slice u9 1 f91, .int .i64 0, .int .i64 0], PosV x x0 x1 4 1 1 (P4 0 1 2 0)] rfl rfl (enters_of Try.func20 (by kernel_rfl) rfl) (HCM.mono ?_)
    rintro e wb ⟨rfl, hbb⟩
    have hSb := And.intro (hSa.1.up hbb) (And.intro (hSa.2.1.up hbb) (hSa.2.2.up hbb))
    refine ⟨_, rfl, hK.out _ _ hSb (fun _ => ?_)⟩
    clear hK K HCM
    (try simp only [pS])
    refine TK 5 ?_
    (try simp only [pS])
    refine TK 6 ?_
    (try simp only [pS])
    refine TK 7 ?_
    (try simp only [pS])
    refine TK 8 ?_
    (try simp only [pS])
    refine TK 9 ?_
    (try simp only [pS])
    refine TK 10 ?_
    (try simp only [pS])
    refine TK 11 ?_
    (try simp only [pS])
    refine TK 12 ?_
    (try simp only [pS])
    refine TK 13 ?_
    (try simp only [pS])
    refine TK 14 ?_
    (try simp only [pS])
    refine TK 15 ?_
    (try simp only [pS])
    refine TK 16 ?_
    (try simp only [pS])
    refine TK 17 ?_
    (try simp only [pS])
    refine TK 18 ?_
    (try simp only [pS])
    refine TK 19 ?_
    (try simp only [pS])
    refine TK 20 ?_
    (try simp only [pS])
    refine TK 21 ?_
    (try simp only [pS])
    refine TK 22 ?_
    (try simp only [pS])
    refine TK 23 ?_
    (try simp only [pS])
    refine TX 24 (YL rfl 35 _ rfl g 0 rfl _ (G41 an at_ ak ck) _ _ (fun _ h => h.1.hg) rfl Try.underlying35 rfl info_game) ?_
    (try simp only [pS])
    refine TX 25 (YL rfl 39 _ rfl m 0 rfl _ [.slice a 3 d, .slice a0 1 d0, .slice a1 1 d1, .int .i64 0, .int .i64 0] _ _ (fun _ h => h.2.1.hm) rfl Try.underlying39 rfl info_mat) ?_
    (try simp only [pS])
    refine wpAnyH_ready (rs := [26]) (by kernel_rfl) (by simp) ?_
    refine AC (i := 26) (fun K hK => ?_) AllReadyH.nil
    refine step_call_h rfl 16 _ _ #[.agg #[.int .i64 4, .slice an 1 1, .slice at_ 1 1, .slice ak 1 ck, .int .i64 2, .bool false, .slice none 0 0, .int .i64 3, .int .i64 2], .agg #[.slice a 3 d, .slice a0 1 d0, .slice a1 1 d1, .int .i64 0, .int .i64 0]] rfl rfl (enters_of Try.func16 (by kernel_rfl) rfl) ((matE (c := d) (c0 := d0) (c1 := d1) hSb.1 fitM hSb.2.1.kp true e_mat).mono ?_)
    rintro e wc2 ⟨rfl, hbc⟩
    have hSc := And.intro (hSb.1.up hbc) (And.intro (hSb.2.1.up hbc) (hSb.2.2.up hbc))
    refine ⟨_, rfl, hK.out _ _ hSc (fun _ => ?_)⟩
    clear hK K
    (try simp only [pS])
    refine TK 27 ?_
    (try simp only [pS])
    refine TK 28 ?_
    (try simp only [pS])
    refine TX 29 (YL rfl 35 _ rfl g 0 rfl _ (G41 an at_ ak ck) _ _ (fun _ h => h.1.hg) rfl Try.underlying35 rfl info_game) ?_
    (try simp only [pS])
    refine TK 30 ?_
    (try simp only [pS])
    refine wpAnyH_ready (rs := [31]) (by kernel_rfl) (by simp) ?_
    refine AC (i := 31) (fun K hK => ?_) AllReadyH.nil
    refine step_call_h rfl 16 _ _ #[.agg #[.int .i64 4, .slice an 1 1, .slice at_ 1 1, .slice ak 1 ck, .int .i64 2, .bool false, .slice none 0 0, .int .i64 3, .int .i64 2], .agg #[.slice none 0 0, .slice none 0 0, .slice none 0 0, .int .i64 0, .int .i64 0]] rfl rfl (enters_of Try.func16 (by kernel_rfl) rfl) ((matE (c := 0) (c0 := 0) (c1 := 0) hSc.1 fitZ (zero_in _ _) false e_matz).mono ?_)
    rintro e wd ⟨rfl, hbd⟩
    have hSd := And.intro (hSc.1.up hbd) (And.intro (hSc.2.1.up hbd) (hSc.2.2.up hbd))
    refine ⟨_, rfl, hK.out _ _ hSd (fun _ => ?_)⟩
    clear hK K
    (try simp only [pS])
    refine TK 32 ?_
    (try simp only [pS])
    refine TK 33 ?_
    (try simp only [pS])
    refine TK 34 ?_
    (try simp only [pS])
    refine wpAnyH_done (by kernel_rfl) ?_ _
    go_wp2
    go_ret
    exact ⟨rfl, hSd.1.b⟩
end Go.Proofs.Ytepbmgbomdekaaa
