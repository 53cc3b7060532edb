/-
  ProgParses returns true.
-/
import Derived.Test.YtidgdfjnjgonoaaGreatDoorPLParsesB
import Derived.Test.YtidgdfjnjgonoaaGreatDoorPLParsesC
import Derived.Test.YtidgdfjnjgonoaaGreatDoorPLMore
import Derived.Deep.DeepCutAuto
namespace Go.Proofs.YtidgdfjnjgonoaaGreatDoor
open Go Go.RowKit Go.Sort Go.Lib

def textsL (s T : List UInt8) (i k j : Nat) : List UInt8 := match j with
  | 0 => s
  | 1 => T.take i ++ s ++ T.drop k
  | 2 => T.take i
  | _ => T ++ 32 :: s
theorem texts_len (s T : List UInt8) (i k j : Nat) (hs : s.length ≤ 80) (hT : T.length ≤ 64) : (textsL s T i k j).length ≤ 1000 := by
  unfold textsL
  split <;> (try simp only [List.length_append, List.length_take, List.length_drop, List.length_cons]) <;> omega
theorem print_le64 {l : List (Int × Int)} (hv : validP l 8 6 4 = true) : (printS l).length ≤ 64 := by
  rw [← rprint_eq]
  unfold rprintS
  rw [if_pos hv]
  have h := rjoin_len l hv l.length (Nat.le_refl _)
  unfold rjoinTo at h
  rw [List.take_length] at h
  have := valid_len hv
  omega

set_option maxRecDepth 100000 in
set_option maxHeartbeats 3000000 in
theorem pparses_any (l : List Nat) (al : Option Addr) (cl N : Nat) (s : List UInt8) (x y : Nat) (hx : x ≤ 255) (hy : y ≤ 255) (w : World) (hL : LibIn w) (hN : N ≤ w.heap.size) (hI : U8s N w al l) :
    Calls Tryz.prog 5 #[.slice al l.length cl, .string ⟨s.toArray⟩, .agg #[.int .u8 x, .int .u8 y]] w fun e w' => e = .returned (.bool true) ∧ Below w.heap.size w w' := by
  go_enter Tryz.func5, Tryz.ntmps5
  go_wp2_with fail
  have b0 : Below w.heap.size w (w.alloc (.cells #[.int .u8 x, .int .u8 y] 42)) := below_alloc (Below.refl _ _) _
  have x0 : (w.alloc (.cells #[.int .u8 x, .int .u8 y] 42)).cell? ⟨w.heap.size, 0, none⟩ = some (.int .u8 x) := cell_new_at _ _ _ _ _ _ rfl rfl
  have x1 : (w.alloc (.cells #[.int .u8 x, .int .u8 y] 42)).cell? ⟨w.heap.size, 1, none⟩ = some (.int .u8 y) := cell_new_at _ _ _ _ _ _ rfl rfl
  generalize w.alloc (.cells #[.int .u8 x, .int .u8 y] 42) = w0 at *
  refine (sanity_any w0 (hL.up b0)).mono ?_
  rintro e w1 ⟨rfl, hb1⟩
  have hbw := below_step b0 hb1
  replace x0 := cell_keep hb1 x0
  replace x1 := cell_keep hb1 x1
  have HL1 := Lib.hid (hL.up hbw)
  have HI1 := Lib.hid (hI.up hN hbw)
  have hN1 := Nat.le_trans hN hbw.size
  clear b0 hb1 hL hI
  by_cases h80 : 80 < s.length
  · have t1 : decide (80 < (s.length : Int)) = true := by simp; omega
    go_wp2
    go_ret
    exact ⟨rfl, hbw⟩
  · have t1 : decide (80 < (s.length : Int)) = false := by simp; omega
    have hs80 : s.length ≤ 80 := by omega
    clear h80
    have HLB := Lib.hid (lib_any l al cl N w1 hN1 HI1.out)
    have HLV := Lib.hid (lib_valid l)
    have hll := lib_len l
    go_wp2_with fail
    refine HLB.out.mono ?_
    rintro e w2 ⟨v, rfl, hown, hb2⟩
    generalize libS l = P at *
    obtain ⟨g, cap, rfl, hg1, hg2⟩ := hown.some_of hll.1
    obtain ⟨_, _, e, hprg⟩ := hown.prg
    cases e
    have HP2 := Lib.hid (show Prg w2.heap.size w2 (some ⟨g, 0, none⟩) P from hprg)
    replace x0 := cell_keep hb2 x0
    replace x1 := cell_keep hb2 x1
    have HL2 := Lib.hid (HL1.out.up hb2)
    have hbw2 := below_step hbw hb2
    clear hown hprg hb2 HL1 HI1 hbw hN1 HLB
    go_wp2_with fail
    refine (rprint_any P (some ⟨g, 0, none⟩) cap w2.heap.size w2 (by omega) (Nat.le_refl _) HP2.out).mono ?_
    rintro e w3 ⟨rfl, hb3⟩
    have hTl := print_le64 HLV.out
    unfold strV
    generalize printS P = T at *
    replace x0 := cell_keep hb3 x0
    replace x1 := cell_keep hb3 x1
    have HL3 := Lib.hid (HL2.out.up hb3)
    have hbw3 := below_step hbw2 hb3
    clear HP2 HLV hb3 HL2 hbw2 hg1 hg2
    have hl0 := World.block_lt_of_cell? _ _ x0
    go_upto_region 7 with (fail)
    obtain ⟨i, hi0, hi⟩ : ∃ i : Nat, (x : Int) % ((T.length : Int) + 1) = (i : Int) ∧ i ≤ T.length := ⟨x % (T.length + 1), by simp, by have := Nat.mod_lt x (show 0 < T.length + 1 by omega); omega⟩
    rw [hi0]
    obtain ⟨k, hk0, hk⟩ : ∃ k : Nat, min (wrap64 ((i : Int) + (y : Int) % 4)) (T.length : Int) = (k : Int) ∧ k ≤ T.length := by
      rw [IntWalk.wrap64_in _ (by omega)]
      exact ⟨min (i + y % 4) T.length, by omega, by omega⟩
    rw [hk0]
    clear hi0 hk0 x0 x1
    refine parses_r7 s T i k w3 _ _ _ _ _ _ _ _ _ _ _ _ _ _ _ _ _ _ _ _ _ _ _ _ _ _ _ _ _ _ _ _ _ _ _ _ _ _ _ _ _ _ _ _ _ _ _ _ _ _ _ _ _ _ _ _ _ _ _ _ _ _ _ _ _ _ _ _ _ _ _ _ _ _ _ _ _ _ _ _ _ _ _ _ _ _ _ _ _ _ _ _ _ _ _ _ _ _ _ _ _ hs80 (by omega) hi hk (Lib.hid ?_)
    intro s41 s42 s43 s44 s45 s46 s47 s48 s49 s50 s51 s52 s53 s54 s55 s56 s57 s58 gT w4 d0 d1 d2 d3 hb4
    have HC := Lib.hid (show ∀ j, j < 4 → w4.cell? ⟨gT, j, none⟩ = some (.string ⟨(textsL s T i k j).toArray⟩) from fun j hj => by
      have : j = 0 ∨ j = 1 ∨ j = 2 ∨ j = 3 := by omega
      rcases this with rfl | rfl | rfl | rfl
      · exact d0
      · exact d1
      · exact d2
      · exact d3)
    have HTL := Lib.hid (fun j => texts_len s T i k j hs80 hTl)
    have hbw4 := below_step hbw3 hb4
    have HL4 := Lib.hid (HL3.out.up hb4)
    generalize textsL s T i k = TX at *
    clear d0 d1 d2 d3 hb4 HL3 hbw3 hl0
    go_wp2_with fail
    go_loopw [12] (fun qv wr => ∃ q : Nat, q ≤ 4 ∧ qv = .int .i64 q ∧ Below w4.heap.size w4 wr) (fun qv _ => 4 - (intOf qv).toNat)
    case atStart => exact ⟨0, by omega, rfl, Below.refl _ _⟩
    case round =>
      obtain ⟨q, hq, rfl, hbr⟩ := hrel
      by_cases hlt : q < 4
      · have hc := cell_keep hbr (HC.out q hlt)
        have htl := HTL.out q
        generalize TX q = t at *
        have HPA := Lib.hid (parse_any t (by omega) wr (HL4.out.up hbr))
        have HPB := Lib.hid (fun W => rparse_any t (by omega) W)
        have hgT := World.block_lt_of_cell? _ _ hc
        have hlt' : (q : Int) < 4 := by omega
        rcases parse_snd t with ⟨L, hpl⟩ | hpl
        · have HPV := Lib.hid (print_parse hpl)
          rw [hpl] at HPA HPB
          clear hpl
          go_wp2_with fail
          refine HPA.out.mono ?_
          rintro e w5 ⟨v5, rfl, hown5, hb5⟩
          obtain ⟨a5, c5, rfl, hp5⟩ := hown5.prg
          replace hc := cell_keep hb5 hc
          have HP5 := Lib.hid hp5
          clear hown5 hp5
          dsimp only
          go_wp2_with fail
          refine (HPB.out w5).mono ?_
          rintro e w6 ⟨a6, c6, rfl, hp6, hb6⟩
          dsimp only
          have HP56 := Lib.hid (HP5.out.later hb6)
          have HP6 := Lib.hid hp6
          replace hc := cell_keep hb6 hc
          have hbr6 := below_step (below_step hbr hb5) hb6
          have HL6 := Lib.hid (HL4.out.up hbr6)
          have hll8 := valid_len HPV.out.1
          clear hp6 hb5 hb6
          go_upto_region 13 with (fail)
          refine parses_r13a L a5 a6 c5 c6 gT q t w6 _ _ _ _ _ _ _ _ _ _ _ _ _ _ _ _ _ _ _ _ _ _ _ _ _ _ _ _ _ _ _ _ _ _ _ _ _ _ _ _ _ _ _ _ _ _ _ _ _ _ _ _ _ _ _ _ _ _ _ _ _ _ _ _ _ _ _ _ _ _ _ _ _ _ _ _ _ _ _ _ _ _ _ _ _ _ _ _ _ _ _ _ _ _ _ _ _ _ _ (by omega) hlt HP56 HP6 hc HL6 (Lib.hid HPV.out.2) (Lib.hid ?_)
          intro s81 s82 s83 s84 s85 s86 s87 s88 s89 s90 s91 s92 s93 s94 s95 s96 s97 s98 s99 s100 s101 w7 hb7
          have hbr7 := below_step hbr6 hb7
          go_wp2
          go_roundw
          case rel => exact ⟨q + 1, by omega, by simp, hbr7⟩
          case measure => simp [intOf]; omega
        · rw [hpl] at HPA HPB
          clear hpl
          go_wp2_with fail
          refine HPA.out.mono ?_
          rintro e w5 ⟨v5, rfl, hown5, hb5⟩
          obtain ⟨a5, c5, rfl, hp5⟩ := hown5.prg
          replace hc := cell_keep hb5 hc
          have HP5 := Lib.hid hp5
          clear hown5 hp5
          dsimp only
          go_wp2_with fail
          refine (HPB.out w5).mono ?_
          rintro e w6 ⟨a6, c6, rfl, hp6, hb6⟩
          dsimp only
          have HP56 := Lib.hid (HP5.out.later hb6)
          have HP6 := Lib.hid hp6
          have hbr6 := below_step (below_step hbr hb5) hb6
          clear hp6 hb5 hb6
          go_upto_region 13 with (fail)
          refine parses_r13b [] a5 a6 c5 c6 gT q w6 _ _ _ _ _ _ _ _ _ _ _ _ _ _ _ _ _ _ _ _ _ _ _ _ _ _ _ _ _ _ _ _ _ _ _ _ _ _ _ _ _ _ _ _ _ _ _ _ _ _ _ _ _ _ _ _ _ _ _ _ _ _ _ _ _ _ _ _ _ _ _ _ _ _ _ _ _ _ _ _ _ _ _ _ _ _ _ _ _ _ _ _ _ _ _ _ _ _ _ (by simp) HP56 HP6 (Lib.hid ?_)
          intro s81 s82 s83 s84 s85 s86 s87 s88 s89 s90 s91 s92 s93 s94 s95 s96 s97 s98 s99 s100 s101 w7 hb7
          have hbr7 := below_step hbr6 hb7
          go_wp2
          go_roundw
          case rel => exact ⟨q + 1, by omega, by simp, hbr7⟩
          case measure => simp [intOf]; omega
      · obtain rfl : q = 4 := by omega
        go_wp2
        go_ret
        exact ⟨rfl, below_step hbw4 hbr⟩
end Go.Proofs.YtidgdfjnjgonoaaGreatDoor
