/-
  ProgMatchesReference returns true.
-/
import Derived.Test.YtidgdfjnjgonoaaGreatDoorPLRefA
import Derived.Test.YtidgdfjnjgonoaaGreatDoorQShort
import Derived.Test.YtidgdfjnjgonoaaGreatDoorPLTextsA
import Derived.Deep.DeepCutAuto
namespace Go.Proofs.YtidgdfjnjgonoaaGreatDoor
open Go Go.RowKit Go.Sort Go.Lib

set_option maxRecDepth 100000 in
set_option maxHeartbeats 4000000 in
theorem pref_any (l : List Nat) (al : Option Addr) (cl N : Nat) (raw : List (Int × Int)) (ar : Option Addr) (cr : Nat) (d k r : Int) (w : World) (hL : LibIn w) (hN : N ≤ w.heap.size) (hI : U8s N w al l) (hR : Prg N w ar raw) (hc : raw.length ≤ cr) (hm : cr ≤ maxLen) :
    Calls Tryz.prog 3 #[.slice al l.length cl, .slice ar raw.length cr, .agg #[.int .i64 d, .int .i64 k, .int .i64 r]] w fun e w' => e = .returned (.bool true) ∧ Below w.heap.size w w' := by
  have hlA := lib_len l
  have hR12 : (raw.take 12).length ≤ 12 := by rw [List.length_take]; omega
  go_enter Tryz.func3, Tryz.ntmps3
  go_wp2_with fail
  have b0 : Below w.heap.size w (w.alloc (.cells #[.int .i64 d, .int .i64 k, .int .i64 r] 24)) := below_alloc (Below.refl _ _) _
  have x0 : (w.alloc (.cells #[.int .i64 d, .int .i64 k, .int .i64 r] 24)).cell? ⟨w.heap.size, 0, none⟩ = some (.int .i64 d) := cell_new_at _ _ _ _ _ _ rfl rfl
  have x1 : (w.alloc (.cells #[.int .i64 d, .int .i64 k, .int .i64 r] 24)).cell? ⟨w.heap.size, 1, none⟩ = some (.int .i64 k) := cell_new_at _ _ _ _ _ _ rfl rfl
  have x2 : (w.alloc (.cells #[.int .i64 d, .int .i64 k, .int .i64 r] 24)).cell? ⟨w.heap.size, 2, none⟩ = some (.int .i64 r) := cell_new_at _ _ _ _ _ _ rfl rfl
  generalize w.alloc (.cells #[.int .i64 d, .int .i64 k, .int .i64 r] 24) = w0 at *
  refine (sanity_any w0 (hL.up b0)).mono ?_
  rintro e w1 ⟨rfl, hb1⟩
  have hbw := below_step b0 hb1
  have X0 := Lib.hid (cell_keep hb1 x0)
  have X1 := Lib.hid (cell_keep hb1 x1)
  have X2 := Lib.hid (cell_keep hb1 x2)
  have HL1 := Lib.hid (hL.up hbw)
  have HI1 := Lib.hid (hI.up hN hbw)
  have HR1 := Lib.hid (hR.up hN hbw)
  have hN1 := Nat.le_trans hN hbw.size
  clear b0 hb1 hL hI hR x0 x1 x2
  have KL := Lib.hid (lib_calls l al cl N w1 hN1 HI1)
  have KO := Lib.hid (fun W (h : Below w1.heap.size w1 W) => lib_any l al cl N W (Nat.le_trans hN1 h.size) (HI1.out.up hN1 h))
  have KS := Lib.hid (fun W (h : Below w1.heap.size w1 W) => short_any raw ar cr N W hc hm (Nat.le_trans hN1 h.size) (HR1.out.up hN1 h))
  generalize libS l = A at *
  generalize raw.take 12 = R at *
  have h1 : Below w1.heap.size w1 w1 := Below.refl _ _
  go_wp2_with fail
  refine (KL.out _ h1).mono ?_
  rintro e w2 ⟨g1, c1, rfl, _, hp1, hb2⟩
  have h2 := below_step h1 hb2
  have HP1 := Lib.hid hp1
  clear hp1 h1
  go_wp2_with fail
  refine (KS.out _ h2).mono ?_
  rintro e w3 ⟨g2, c2, rfl, _, ho2, hb3⟩
  have h3 := below_step h2 hb3
  obtain ⟨_, _, e, hp2⟩ := ho2.prg
  cases e
  have HP2 := Lib.hid (show Prg w3.heap.size w3 (some ⟨g2, 0, none⟩) R from hp2)
  have HP1 := Lib.hid (HP1.out.later' hb3)
  clear hp2 ho2 h2 hb2 hb3
  go_wp2_with fail
  refine (KO.out _ h3).mono ?_
  rintro e w4 ⟨v4, rfl, ho4, hb4⟩
  have h4 := below_step h3 hb4
  go_wp2_with fail
  refine (KS.out _ h4).mono ?_
  rintro e w5 ⟨g5, c5, rfl, _, ho5, hb5⟩
  obtain ⟨_, _, e, hp5⟩ := ho5.prg
  cases e
  have HO5 := Lib.hid (ho4.below hb5)
  have HB5 := Lib.hid (below_step hb4 hb5)
  have HP5 := Lib.hid (show Prg w5.heap.size w5 (some ⟨g5, 0, none⟩) R from hp5)
  have HA2 := Lib.hid (show A.length < 2000 by omega)
  have HR2 := Lib.hid (show R.length < 2000 by omega)
  clear ho4 ho5 hp5 hb5
  have hb4' := Lib.hid hb4
  clear hb4 h4
  obtain ⟨AR, hAR⟩ : ∃ AR, A ++ R = AR := ⟨_, rfl⟩
  have hAR1 : 1 ≤ AR.length := by rw [← hAR, List.length_append]; omega
  have hlen6 : AR.length ≤ 100 := by rw [← hAR, List.length_append]; omega
  have HAR := Lib.hid hAR
  clear hAR
  go_wp2_with (at_builtin; go_loud (refine wpList_pushB rfl 26 ty_prog (.tmp 17) (.tmp 19) rfl w3 HB5.out w5.heap.size _ A rfl HO5.out HA2.out g5 0 c5 _ R rfl rfl HR2.out HP5.out ?_; intro v6 w6 ho6 hb6 hg6; clear hg6; rw [HAR.out] at ho6; obtain ⟨g6, c6, rfl, hq1, hq2⟩ := ho6.some_of hAR1))
  obtain ⟨_, _, e, hp6⟩ := ho6.prg
  cases e
  have hb7 : Below w6.heap.size w6 (w6.alloc (.cells #[.slice (some ⟨g1, 0, none⟩) A.length c1, .slice (some ⟨g2, 0, none⟩) R.length c2, .slice (some ⟨g6, 0, none⟩) AR.length c6] 26)) := below_alloc (Below.refl _ _) _
  have d0 : (w6.alloc (.cells #[.slice (some ⟨g1, 0, none⟩) A.length c1, .slice (some ⟨g2, 0, none⟩) R.length c2, .slice (some ⟨g6, 0, none⟩) AR.length c6] 26)).cell? ⟨w6.heap.size, 0, none⟩ = some (.slice (some ⟨g1, 0, none⟩) A.length c1) := cell_new_at _ _ _ _ _ _ rfl rfl
  have d1 : (w6.alloc (.cells #[.slice (some ⟨g1, 0, none⟩) A.length c1, .slice (some ⟨g2, 0, none⟩) R.length c2, .slice (some ⟨g6, 0, none⟩) AR.length c6] 26)).cell? ⟨w6.heap.size, 1, none⟩ = some (.slice (some ⟨g2, 0, none⟩) R.length c2) := cell_new_at _ _ _ _ _ _ rfl rfl
  have d2 : (w6.alloc (.cells #[.slice (some ⟨g1, 0, none⟩) A.length c1, .slice (some ⟨g2, 0, none⟩) R.length c2, .slice (some ⟨g6, 0, none⟩) AR.length c6] 26)).cell? ⟨w6.heap.size, 2, none⟩ = some (.slice (some ⟨g6, 0, none⟩) AR.length c6) := cell_new_at _ _ _ _ _ _ rfl rfl
  have hb37 := below_step hb6 hb7
  generalize w6.alloc (.cells #[.slice (some ⟨g1, 0, none⟩) A.length c1, .slice (some ⟨g2, 0, none⟩) R.length c2, .slice (some ⟨g6, 0, none⟩) AR.length c6] 26) = w7 at *
  have HC := Lib.hid (show ∀ j, j < 3 → ∃ (L : List (Int × Int)) (a : Option Addr) (c : Nat), w7.cell? ⟨w6.heap.size, j, none⟩ = some (.slice a L.length c) ∧ L.length ≤ 100 ∧ Prg w7.heap.size w7 a L from fun j hj => by
    have : j = 0 ∨ j = 1 ∨ j = 2 := by omega
    rcases this with rfl | rfl | rfl
    · exact ⟨A, _, _, d0, by omega, HP1.out.later' hb37⟩
    · exact ⟨R, _, _, d1, by omega, HP2.out.later' hb37⟩
    · exact ⟨AR, _, _, d2, hlen6, Prg.later' hp6 hb7⟩)
  have h17 := below_step h3 hb37
  have HL7 := Lib.hid (HL1.out.up h17)
  have hw67 : w6.heap.size < w7.heap.size := World.block_lt_of_cell? _ _ d0
  clear d0 d1 d2 hb37 hb7 hb6 hp6 ho6 h3 hb4' HB5 HO5 HP5 KL KO KS HAR
  go_loopw [9] (fun i wr => ∃ q : Nat, q ≤ 3 ∧ i = .int .i64 q ∧ Below w7.heap.size w7 wr) (fun i _ => 3 - (intOf i).toNat)
  case atStart => exact ⟨0, by omega, rfl, Below.refl _ _⟩
  case round =>
    obtain ⟨q, hq, rfl, hbr⟩ := hrel
    by_cases hlt : q < 3
    · obtain ⟨L, a, c, hc, hl, hp⟩ := HC.out q hlt
      replace hc := cell_keep hbr hc
      have HPL := Lib.hid (Prg.later' hp hbr)
      have HLr := Lib.hid (HL7.out.up hbr)
      have h1r := below_step h17 hbr
      have x0 := cell_keep h1r X0.out
      have x1 := cell_keep h1r X1.out
      have x2 := cell_keep h1r X2.out
      have hlt' : (q : Int) < 3 := by omega
      have hw6r : w6.heap.size < wr.heap.size := by have := hbr.size; omega
      clear hp
      go_upto_region 7 with (fail)
      refine pref_r7 L a c w.heap.size d k r wr _ _ _ _ _ _ _ _ _ _ _ _ _ _ _ _ _ _ _ _ _ _ _ _ _ _ _ _ _ _ _ _ _ _ _ _ _ _ _ _ _ _ _ _ _ _ _ _ _ _ _ _ _ _ _ _ _ _ _ _ _ _ _ _ _ _ _ _ _ _ _ _ _ _ _ _ _ _ hl HPL HLr x0 x1 x2 (Lib.hid ?_)
      intro s32 s33 s34 s35 s36 s37 s38 s39 s40 s41 s42 s43 s44 s45 s46 s47 s48 s49 s50 s51 s52 s53 s54 s55 s56 s57 s58 s59 s60 s61 s62 s63 s64 s65 s66 s67 s68 s69 s70 s71 s72 s73 s74 s75 s76 w8 hb8
      have hbr8 := below_step hbr hb8
      clear x0 x1 x2
      go_wp2
      go_roundw
      case rel => exact ⟨q + 1, by omega, by simp, hbr8⟩
      case measure => simp [intOf]; omega
    · obtain rfl : q = 3 := by omega
      go_wp2
      go_ret
      exact ⟨rfl, below_step hbw (below_step h17 hbr)⟩
end Go.Proofs.YtidgdfjnjgonoaaGreatDoor
