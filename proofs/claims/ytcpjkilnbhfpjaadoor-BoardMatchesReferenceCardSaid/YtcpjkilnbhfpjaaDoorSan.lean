/-
  The law's fixed examples: they hold.
-/
import Derived.Test.YtcpjkilnbhfpjaaDoorSanS
import Derived.Test.YtcpjkilnbhfpjaaDoorPartsW
namespace Go.Proofs.YtcpjkilnbhfpjaaDoor
open Go Go.RowKit Go.Shelf

set_option maxRecDepth 100000 in
set_option maxHeartbeats 8000000 in
theorem sanity_any (w : World) (hR : RaysIn w) :
    Calls Tryd.prog 11 #[] w fun e w' => e = .returned (.bool true) ∧ Below w.heap.size w w' := by
  have vG := sanG_valid
  have vA := sanA_valid
  have vB := sanB_valid
  obtain ⟨okG, rowG, turnG⟩ := ok_of_valid vG
  obtain ⟨okA, rowA, turnA⟩ := ok_of_valid vA
  have tG : 1 ≤ sanG.turn.length := by decide +kernel
  have tA : 1 ≤ sanA.turn.length := by decide +kernel
  obtain ⟨G, hG⟩ : ∃ G, G = sanG := ⟨_, rfl⟩
  obtain ⟨A, hA⟩ : ∃ A, A = sanA := ⟨_, rfl⟩
  obtain ⟨B, hB⟩ : ∃ B, B = sanB := ⟨_, rfl⟩
  have HA := Lib.hid (by rw [hG, hA]; rfl : withoutS G 1 = A)
  have HB := Lib.hid (by rw [hA, hB]; rfl : withoutS A 4 = B)
  have HG := Lib.hid (by rw [hG]; rfl : gridS 3 2 = G)
  have cG : (1 : Int) < sanG.cells := by rw [sanG_cells]; omega
  have cA : (4 : Int) < sanA.cells := by rw [sanA_cells]; omega
  have gG : sanG.cells ≤ 6 := by rw [sanG_cells]; omega
  have bG : (6 : Int) < 0 ∨ sanG.cells ≤ 6 := .inr gG
  have T0 := sanG_to0
  have T1 := sanG_to1
  have T2 := sanG_to2
  have NG := sanG_near
  have PB := sanB_parts
  have LG := sanG_line
  rw [← hG] at T0 T1 T2 NG LG vG okG rowG turnG tG cG gG bG
  rw [← hA] at vA okA rowA turnA tA cA
  rw [← hB] at vB PB
  clear hG hA hB
  have VG := Lib.hid vG
  have VA := Lib.hid vA
  have VB := Lib.hid vB
  have T0' := Lib.hid T0
  have T1' := Lib.hid T1
  have T2' := Lib.hid T2
  have NG' := Lib.hid NG
  have PB' := Lib.hid PB
  have LG' := Lib.hid LG
  clear vG vA vB T0 T1 T2 NG PB LG
  go_enter Tryd.func11, Tryd.ntmps11
  go_wp2_with fail
  refine (grid_any 3 2 (by omega) (by omega) (by omega) w hR).mono ?_
  rintro e w1 ⟨an, cn, at_, ct, rfl, hH1, hb1⟩
  rw [HG.out] at hH1 ⊢
  go_wp2_with fail
  refine (grid_bad 0 5 (by omega) (by omega) (by omega) _).mono ?_
  rintro e w2 ⟨rfl, hb2⟩
  have x1 := (InBox.new cn ct hH1).up hb2
  have hb2' : Below w.heap.size w w2 := by (repeat (first | exact Below.refl _ _ | assumption | refine below_alloc ?_ _ | refine Below.drew ?_ | refine below_drewN_ ?_ _ | refine below_step ?_ (by assumption)))
  clear hb2 hH1
  go_wp2_with fail
  refine (grid_bad 9 8 (by omega) (by omega) (by omega) _).mono ?_
  rintro e w3 ⟨rfl, hb3⟩
  have x1 := x1.up (by (repeat (first | exact Below.refl _ _ | assumption | refine below_alloc ?_ _ | refine Below.drew ?_ | refine below_drewN_ ?_ _ | refine below_step ?_ (by assumption))) : Below w2.heap.size w2 w3)
  have hb3' : Below w.heap.size w w3 := by (repeat (first | exact Below.refl _ _ | assumption | refine below_alloc ?_ _ | refine Below.drew ?_ | refine below_drewN_ ?_ _ | refine below_step ?_ (by assumption)))
  have x1 := x1.up (below_alloc (Below.refl _ _) (.cells #[.int .i64 0, .slice none 0 0, .slice none 0 0] 31))
  have hb4 : Below w.heap.size w (w3.alloc (.cells #[.int .i64 0, .slice none 0 0, .slice none 0 0] 31)) := below_alloc hb3' _
  obtain ⟨c0, c1, c2, hH⟩ := id x1
  go_wp2_with fail
  refine (refValid_any G an at_ cn ct _ _ (Nat.le_refl _) hH).mono ?_
  rintro e w5 ⟨rfl, hb5⟩
  rw [VG.out]
  have x1 := x1.up hb5
  have hb5' := below_step hb4 hb5
  clear c0 c1 c2 hH hb5 hb4 hb2' hb3' hb1
  obtain ⟨c0, c1, c2, hH⟩ := id x1
  go_wp2_with fail
  refine (without_any G okG tG an at_ cn ct 1 (by omega) cG _ _ (Nat.le_refl _) hH).mono ?_
  rintro e w6 ⟨an2, cn2, at2, ct2, rfl, hH2, hb6⟩
  rw [HA.out] at hH2 ⊢
  have x1 := (x1.up hb6).up (below_alloc (Below.refl _ _) (.cells #[.int .i64 A.cells, .slice an2 A.next.length cn2, .slice at2 A.turn.length ct2] 31))
  have x2 := InBox.new cn2 ct2 hH2
  have hb6' := below_alloc (below_step hb5' hb6) (.cells #[.int .i64 A.cells, .slice an2 A.next.length cn2, .slice at2 A.turn.length ct2] 31)
  clear c0 c1 c2 hH hb6 hb5'
  obtain ⟨c0, c1, c2, hH⟩ := id x1
  go_wp2_with fail
  refine (without_bad G.cells _ _ 6 _ bG (by omega)).mono ?_
  rintro e w7 ⟨rfl, hb7⟩
  have x1 := (x1.up hb7).up (below_alloc (Below.refl _ _) (.cells #[.int .i64 0, .slice none 0 0, .slice none 0 0] 31))
  have x2 := (x2.up hb7).up (below_alloc (Below.refl _ _) (.cells #[.int .i64 0, .slice none 0 0, .slice none 0 0] 31))
  have hb7' := below_alloc (below_step hb6' hb7) (.cells #[.int .i64 0, .slice none 0 0, .slice none 0 0] 31)
  clear c0 c1 c2 hH hb7 hb6'
  obtain ⟨c0, c1, c2, hH⟩ := id x2
  go_wp2_with fail
  refine (refValid_any A an2 at2 cn2 ct2 _ _ (Nat.le_refl _) hH).mono ?_
  rintro e w8 ⟨rfl, hb8⟩
  rw [VA.out]
  have x1 := x1.up hb8
  have x2 := x2.up hb8
  have hb8' := below_step hb7' hb8
  clear c0 c1 c2 hH hb8 hb7'
  obtain ⟨c0, c1, c2, hH⟩ := id x2
  go_wp2_with fail
  refine (without_any A okA tA an2 at2 cn2 ct2 4 (by omega) cA _ _ (Nat.le_refl _) hH).mono ?_
  rintro e w9 ⟨an3, cn3, at3, ct3, rfl, hH3, hb9⟩
  rw [HB.out] at hH3 ⊢
  have x1 := (x1.up hb9).up (below_alloc (Below.refl _ _) (.cells #[.int .i64 B.cells, .slice an3 B.next.length cn3, .slice at3 B.turn.length ct3] 31))
  have x3 := InBox.new cn3 ct3 hH3
  have hb9' := below_alloc (below_step hb8' hb9) (.cells #[.int .i64 B.cells, .slice an3 B.next.length cn3, .slice at3 B.turn.length ct3] 31)
  clear c0 c1 c2 hH hb9 hb8' x2
  obtain ⟨c0, c1, c2, hH⟩ := id x3
  go_wp2_with fail
  refine (refValid_any B an3 at3 cn3 ct3 _ _ (Nat.le_refl _) hH).mono ?_
  rintro e w10 ⟨rfl, hb10⟩
  rw [VB.out]
  have x1 := x1.up hb10
  have x3 := x3.up hb10
  have hb10' := below_step hb9' hb10
  clear c0 c1 c2 hH hb10 hb9'
  obtain ⟨c0, c1, c2, hH⟩ := id x1
  go_wp2_with fail
  refine (valid_any G an at_ cn ct _ _ (Nat.le_refl _) hH rowG turnG).mono ?_
  rintro e w11 ⟨rfl, hb11⟩
  rw [VG.out]
  have x1 := x1.up hb11
  have x3 := x3.up hb11
  have hb11' := below_step hb10' hb11
  clear c0 c1 c2 hH hb11 hb10'
  obtain ⟨c0, c1, c2, hH⟩ := id x1
  go_wp2_with fail
  refine (valid_any (Brd.mk 0 [] []) none none 0 0 0 _ (Nat.zero_le _) ⟨.inl rfl, .inl rfl⟩ (by simp) (by simp)).mono ?_
  rintro e w12 ⟨rfl, hb12⟩
  rw [empty_valid]
  have x1 := x1.up hb12
  have x3 := x3.up hb12
  have hb12' := below_step hb11' hb12
  clear c0 c1 c2 hH hb12 hb11'
  obtain ⟨c0, c1, c2, hH⟩ := id x1
  go_wp2_with fail
  refine (to_any G okG an at_ cn ct 0 0 4 _ _ (Nat.le_refl _) hH).mono ?_
  rintro e w13 ⟨rfl, hb13⟩
  rw [T0'.out]
  have x1 := x1.up hb13
  have x3 := x3.up hb13
  have hb13' := below_step hb12' hb13
  clear c0 c1 c2 hH hb13 hb12'
  obtain ⟨c0, c1, c2, hH⟩ := id x1
  go_wp2_with fail
  refine (to_any G okG an at_ cn ct 1 0 4 _ _ (Nat.le_refl _) hH).mono ?_
  rintro e w14 ⟨rfl, hb14⟩
  rw [T1'.out]
  have x1 := x1.up hb14
  have x3 := x3.up hb14
  have hb14' := below_step hb13' hb14
  clear c0 c1 c2 hH hb14 hb13'
  obtain ⟨c0, c1, c2, hH⟩ := id x1
  go_wp2_with fail
  refine (to_any G okG an at_ cn ct 2 0 4 _ _ (Nat.le_refl _) hH).mono ?_
  rintro e w15 ⟨rfl, hb15⟩
  rw [T2'.out]
  have x1 := x1.up hb15
  have x3 := x3.up hb15
  have hb15' := below_step hb14' hb15
  clear c0 c1 c2 hH hb15 hb14'
  obtain ⟨c0, c1, c2, hH⟩ := id x1
  go_wp2_with fail
  refine (callsIn_wide.1 (near_in G okG an at_ cn ct 4 _ _ (Nat.le_refl _) hH)).mono ?_
  rintro e w16 ⟨v16, rfl, hown, hb16⟩
  rw [NG'.out] at hown
  obtain ⟨a16, cap16, rfl, hI16⟩ := OwnInts.ints hown
  have x1 := x1.up hb16
  have x3 := x3.up hb16
  have hb16' := below_step hb15' hb16
  clear c0 c1 c2 hH hb16 hb15'
  obtain ⟨c0, c1, c2, hH⟩ := id x3
  have hbA : Below w16.heap.size w16 (w16.alloc (.cells #[.int .i64 0, .int .i64 1, .int .i64 2, .int .i64 3, .int .i64 5] 3)) := (Below.refl _ _).alloc (Nat.le_refl _) _
  have hints := ints_any [0, 1, 2, 3, 5] [0, 1, 2, 3, 5] a16 (some ⟨w16.heap.size, 0, none⟩) cap16 5 (w16.heap.size + 1) (w16.alloc (.cells #[.int .i64 0, .int .i64 1, .int .i64 2, .int .i64 3, .int .i64 5] 3)) (by simp) ((hI16.below hbA).mono (by omega)) (lit_ints _ _ _ rfl)
  rw [show decide (([0, 1, 2, 3, 5] : List Int) = [0, 1, 2, 3, 5]) = true by decide] at hints
  have HI := Lib.hid hints
  clear hints hI16 hown
  go_wp2_with fail
  refine HI.out.mono ?_
  rintro e w17 ⟨rfl, q17, rfl⟩
  have hbq := below_drewN_ hbA q17
  generalize (w16.alloc (.cells #[.int .i64 0, .int .i64 1, .int .i64 2, .int .i64 3, .int .i64 5] 3)).drewN q17 = w17 at hbq ⊢
  have hb17 := hbq
  clear hbq
  have x1 := x1.up hb17
  have x3 := x3.up hb17
  have hb17' := below_step hb16' hb17
  clear c0 c1 c2 hH hb17 hb16'
  obtain ⟨c0, c1, c2, hH⟩ := id x3
  clear hbA HI
  go_wp2_with fail
  refine (callsIn_wide.1 (parts_in B VB.out an3 at3 cn3 ct3 _ _ (Nat.le_refl _) hH)).mono ?_
  rintro e w18 ⟨v18, rfl, hown, hb18⟩
  rw [PB'.out] at hown
  obtain ⟨a18, cap18, rfl, hI18⟩ := OwnInts.ints hown
  have x1 := x1.up hb18
  have x3 := x3.up hb18
  have hb18' := below_step hb17' hb18
  clear c0 c1 c2 hH hb18 hb17'
  obtain ⟨c0, c1, c2, hH⟩ := id x1
  have hbA : Below w18.heap.size w18 (w18.alloc (.cells #[.int .i64 0, .int .i64 1, .int .i64 2, .int .i64 0, .int .i64 4, .int .i64 2] 3)) := (Below.refl _ _).alloc (Nat.le_refl _) _
  have hints := ints_any [0, 1, 2, 0, 4, 2] [0, 1, 2, 0, 4, 2] a18 (some ⟨w18.heap.size, 0, none⟩) cap18 6 (w18.heap.size + 1) (w18.alloc (.cells #[.int .i64 0, .int .i64 1, .int .i64 2, .int .i64 0, .int .i64 4, .int .i64 2] 3)) (by simp) ((hI18.below hbA).mono (by omega)) (lit_ints _ _ _ rfl)
  rw [show decide (([0, 1, 2, 0, 4, 2] : List Int) = [0, 1, 2, 0, 4, 2]) = true by decide] at hints
  have HI := Lib.hid hints
  clear hints hI18 hown
  go_wp2_with fail
  refine HI.out.mono ?_
  rintro e w19 ⟨rfl, q19, rfl⟩
  have hbq := below_drewN_ hbA q19
  generalize (w18.alloc (.cells #[.int .i64 0, .int .i64 1, .int .i64 2, .int .i64 0, .int .i64 4, .int .i64 2] 3)).drewN q19 = w19 at hbq ⊢
  have hb19 := hbq
  clear hbq
  have x1 := x1.up hb19
  have x3 := x3.up hb19
  have hb19' := below_step hb18' hb19
  clear c0 c1 c2 hH hb19 hb18'
  obtain ⟨c0, c1, c2, hH⟩ := id x1
  clear hbA HI
  go_wp2_with fail
  refine (line_any G okG an at_ cn ct 0 2 0 _ _ (Nat.le_refl _) hH).mono ?_
  rintro e w20 ⟨v20, rfl, hown, hb20⟩
  rw [LG'.out] at hown
  obtain ⟨a20, cap20, rfl, hI20⟩ := OwnInts.ints hown
  have x1 := x1.up hb20
  have x3 := x3.up hb20
  have hb20' := below_step hb19' hb20
  clear c0 c1 c2 hH hb20 hb19'
  obtain ⟨c0, c1, c2, hH⟩ := id x1
  have hbA : Below w20.heap.size w20 (w20.alloc (.cells #[.int .i64 1, .int .i64 2] 3)) := (Below.refl _ _).alloc (Nat.le_refl _) _
  have hints := ints_any [1, 2] [1, 2] a20 (some ⟨w20.heap.size, 0, none⟩) cap20 2 (w20.heap.size + 1) (w20.alloc (.cells #[.int .i64 1, .int .i64 2] 3)) (by simp) ((hI20.below hbA).mono (by omega)) (lit_ints _ _ _ rfl)
  rw [show decide (([1, 2] : List Int) = [1, 2]) = true by decide] at hints
  have HI := Lib.hid hints
  clear hints hI20 hown
  go_wp2_with fail
  refine HI.out.mono ?_
  rintro e w21 ⟨rfl, q21, rfl⟩
  have hbq := below_step hb20' (below_drewN_ hbA q21)
  clear hbA HI
  go_wp2
  go_ret
  exact ⟨rfl, hbq⟩
end Go.Proofs.YtcpjkilnbhfpjaaDoor
