/-
  The laws' fixed examples: they hold.
-/
import Derived.Test.YtidgdfjnjgonoaaGreatDoorPSanT
import Derived.Deep.DeepCutAuto
namespace Go.Proofs.YtidgdfjnjgonoaaGreatDoor
open Go Go.RowKit Go.Sort Go.Lib

set_option maxRecDepth 100000 in
set_option maxHeartbeats 8000000 in
theorem sanity_any (w : World) (hL : LibIn w) :
    Calls Tryz.prog 10 #[] w fun e w' => e = .returned (.bool true) ∧ Below w.heap.size w w' := by
  have HL := Lib.hid hL
  clear hL
  go_enter Tryz.func10, Tryz.ntmps10
  go_wp2_with fail
  have pa := prg_four w 2 7 4 0 6 0 8 5
  have ba : Below w.heap.size w (w.alloc (.cells #[.int .i64 2, .int .i64 7, .int .i64 4, .int .i64 0, .int .i64 6, .int .i64 0, .int .i64 8, .int .i64 5] 41)) := below_alloc (Below.refl _ _) _
  have hA : (w.alloc (.cells #[.int .i64 2, .int .i64 7, .int .i64 4, .int .i64 0, .int .i64 6, .int .i64 0, .int .i64 8, .int .i64 5] 41)).heap.size = w.heap.size + 1 := World.size_alloc _ _
  generalize w.alloc (.cells #[.int .i64 2, .int .i64 7, .int .i64 4, .int .i64 0, .int .i64 6, .int .i64 0, .int .i64 8, .int .i64 5] 41) = wa at *
  have pb := prg_four wa 9 3 1 1 7 1 10 3
  have bb : Below wa.heap.size wa (wa.alloc (.cells #[.int .i64 9, .int .i64 3, .int .i64 1, .int .i64 1, .int .i64 7, .int .i64 1, .int .i64 10, .int .i64 3] 41)) := below_alloc (Below.refl _ _) _
  generalize wa.alloc (.cells #[.int .i64 9, .int .i64 3, .int .i64 1, .int .i64 1, .int .i64 7, .int .i64 1, .int .i64 10, .int .i64 3] 41) = wb at *
  rw [hA] at pb
  have pa2 := (pa.up (Nat.le_refl _) bb).mono bb.size
  have HLb := Lib.hid ((HL.out.up ba).up bb)
  have bwb := below_step ba bb
  clear hA pa ba bb HL
  refine (parse_any [110, 101, 101, 100, 51, 32, 103, 111, 49, 32, 112, 117, 115, 104, 49, 32, 108, 111, 115, 101, 51] (by decide) wb HLb.out).mono ?_
  rintro e w3 ⟨v, rfl, ho, hb3⟩
  rw [sanB_parse] at ho ⊢
  obtain ⟨p, pc, rfl, hp⟩ := ho.prg
  have PA := Lib.hid ((pa2.up (Nat.le_refl _) hb3).mono hb3.size : Prg w3.heap.size w3 (some ⟨w.heap.size, 0, none⟩) sanA)
  have PB := Lib.hid ((pb.up (Nat.le_refl _) hb3).mono hb3.size : Prg w3.heap.size w3 (some ⟨w.heap.size + 1, 0, none⟩) sanB)
  have PP := Lib.hid (hp : Prg w3.heap.size w3 p sanB)
  have HL3 := Lib.hid (HLb.out.up hb3)
  have bw3 := Lib.hid (below_step bwb hb3)
  clear pa2 pb ho hp hb3 HLb bwb
  have k3 : Below w3.heap.size w3 w3 := Below.refl _ _
  go_wp2_with fail
  refine (print_any sanA (some ⟨w.heap.size, 0, none⟩) 4 w3.heap.size _ k3.size (PA.out.below k3) (HL3.out.up k3).signs).mono ?_
  rintro e w4 ⟨rfl, hb4⟩
  rw [sanA_print]
  replace k3 := below_step k3 hb4
  clear hb4
  go_wp2_with fail
  refine (print_any sanB (some ⟨w.heap.size + 1, 0, none⟩) 4 w3.heap.size _ k3.size (PB.out.below k3) (HL3.out.up k3).signs).mono ?_
  rintro e w5 ⟨rfl, hb5⟩
  rw [sanB_print]
  replace k3 := below_step k3 hb5
  clear hb5
  go_wp2_with fail
  refine (same_any sanB sanB p (some ⟨w.heap.size + 1, 0, none⟩) pc 4 w3.heap.size _ (by decide) (PP.out.below k3) (PB.out.below k3)).mono ?_
  rintro e w6 ⟨rfl, q6, rfl⟩
  rw [show decide (sanB = sanB) = true by decide]
  replace k3 := below_drewN_ k3 q6
  generalize w5.drewN q6 = w6 at *
  go_wp2_with fail
  refine (print_any [] none 0 w3.heap.size _ k3.size (.inl rfl) (HL3.out.up k3).signs).mono ?_
  rintro e w7 ⟨rfl, hb7⟩
  rw [nil_print]
  replace k3 := below_step k3 hb7
  clear hb7
  have hoc := odd_cell w7
  have k7 : Below w7.heap.size w7 (w7.alloc (.cells #[.string ⟨#[103, 111]⟩, .string ⟨#[103, 111, 56]⟩, .string ⟨#[103, 111, 48, 48]⟩, .string ⟨#[103, 111, 48, 32, 32, 101, 109, 112, 116, 121]⟩, .string ⟨#[101, 109, 112, 116, 121, 48]⟩, .string ⟨#[116, 97, 107, 101, 32, 116, 97, 107, 101, 32, 116, 97, 107, 101]⟩, .string ⟨#[]⟩] 9)) := below_alloc (Below.refl _ _) _
  go_wp2_with fail
  generalize w7.alloc (.cells #[.string ⟨#[103, 111]⟩, .string ⟨#[103, 111, 56]⟩, .string ⟨#[103, 111, 48, 48]⟩, .string ⟨#[103, 111, 48, 32, 32, 101, 109, 112, 116, 121]⟩, .string ⟨#[101, 109, 112, 116, 121, 48]⟩, .string ⟨#[116, 97, 107, 101, 32, 116, 97, 107, 101, 32, 116, 97, 107, 101]⟩, .string ⟨#[]⟩] 9) = w8 at *
  replace k3 := below_step k3 k7
  have HOC := Lib.hid hoc
  have PA8 := Lib.hid ((PA.out.below k3).mono k3.size)
  have PB8 := Lib.hid ((PB.out.below k3).mono k3.size)
  have HL8 := Lib.hid (HL3.out.up k3)
  have bw8 := Lib.hid (below_step bw3.out k3)
  clear hoc k3 k7 PA PB PP HL3 bw3
  go_loopw [5, 7] (fun t i wr => ∃ q : Nat, q ≤ 7 ∧ t = .bool true ∧ i = .int .i64 q ∧ Below w8.heap.size w8 wr)
    (fun _ i _ => 7 - (intOf i).toNat)
  case atStart => exact ⟨0, by omega, rfl, rfl, Below.refl _ _⟩
  case round =>
    obtain ⟨q, hq, rfl, rfl, k8⟩ := hrel
    by_cases hlt : q < 7
    · have hc := cell_keep k8 (HOC.out q hlt)
      have hop := odd_parse q hlt
      have hol := odd_len q
      generalize oddL[q]?.getD [] = x at *
      have HOP := Lib.hid hop
      clear hop
      go_wp2_with fail
      refine (parse_any x hol _ (HL8.out.up k8)).mono ?_
      rintro e w9 ⟨v, rfl, ho, hb9⟩
      rw [HOP.out] at ho ⊢
      obtain ⟨p9, pc9, rfl, hp9⟩ := ho.prg
      replace k8 := below_step k8 hb9
      clear ho hp9 hb9 hc
      go_wp2
      go_roundw
      case rel => exact ⟨q + 1, by omega, rfl, by simp, k8⟩
      case measure => simp [intOf]; omega
    · obtain rfl : q = 7 := by omega
      have k10 : Below wr.heap.size wr (wr.alloc (.cells #[.int .i64 5, .int .i64 6] 3)) := below_alloc (Below.refl _ _) _
      have hi10 : Ints (wr.alloc (.cells #[.int .i64 5, .int .i64 6] 3)).heap.size (wr.alloc (.cells #[.int .i64 5, .int .i64 6] 3)) (some ⟨wr.heap.size, 0, none⟩) [5, 6] := by
        refine .inr ⟨wr.heap.size, 0, rfl, by simp, fun j hj => ?_⟩
        rw [Nat.zero_add, World.cell?_alloc_new]
        match j, hj with
        | 0, _ => rfl
        | 1, _ => rfl
      go_wp2_with fail
      generalize wr.alloc (.cells #[.int .i64 5, .int .i64 6] 3) = w10 at *
      have k11 := below_step k8 k10
      clear k8 k10
      refine (turned_any [5, 6] (some ⟨wr.heap.size, 0, none⟩) 2 sanB (some ⟨w.heap.size + 1, 0, none⟩) 4 w10.heap.size w10 (by decide) (Nat.le_refl _) ((PB8.out.below k11).mono k11.size) hi10 (HL8.out.up k11).signs).mono ?_
      rintro e w11 ⟨v, rfl, ho, hb11⟩
      rw [sanB_turned] at ho
      obtain ⟨p11, pc11, rfl, hp11⟩ := ho.prg
      have k12 := below_step k11 hb11
      have PA12 := Lib.hid ((PA8.out.below k12).mono k12.size)
      have PB12 := Lib.hid ((PB8.out.below k12).mono k12.size)
      have PT12 := Lib.hid hp11
      have HL12 := Lib.hid (HL8.out.up k12)
      have bw12 := Lib.hid (below_step bw8.out k12)
      clear ho hp11 hb11 k11 k12 hi10 PA8 PB8 HL8 bw8 HOC
      go_upto_region 12 with (fail)
      refine san_tail (some ⟨w.heap.size, 0, none⟩) p11 (w.heap.size + 1) 4 4 pc11 _ _ _ _ _ _ _ _ _ _ _ _ _ _ _ _ _ _ _ _ _ _ _ _ _ _ _ _ _ _ _ _ _ _ _ _ _ _ _ _ _ _ _ _ _ _ _ _ _ _ _ _ _ _ _ _ _ _ _ _ _ _ _ _ _ _ _ _ _ _ _ _ _ _ _ _ _ _ _ _ _ _ _ _ _ _ _ _ _ _ _ _ _ _ _ _ _ _ _ _ _ _ _ _ _ _ _ _ _ _ _ _ _ _ _ _ _ _ _ _ _ _ _ w11 _ (Lib.hid PA12.out) (Lib.hid PB12.out) (Lib.hid PT12.out) HL12 (Lib.hid ?_)
      intro s1 s2 s3 s4 s5 s6 s7 s8 s9 s10 s11 s12 s13 s14 s15 s16 s17 s18 s19 s20 s21 s22 s23 s24 s25 s26 s27 s28 s29 s30 s31 s32 s33 s34 s35 s36 s37 s38 s39 s40 s41 s42 s43 s44 s45 s46 s47 s48 s49 s50 s51 s52 s53 s54 s55 s56 s57 s58 s59 s60 s61 s62 s63 s64 s65 s66 s67 s68 s69 s70 s71 s72 s73 s74 s75 s76 s77 s78 s79 s80 s81 s82 s83 s84 s85 s86 s87 s88 s89 s90 s91 s92 s93 s94 s95 s96 s97 s98 s99 s100 s101 s102 s103 s104 s105 s106 s107 s108 s109 s110 s111 s112 s113 s114 s115 s116 s117 s118 s119 s120 s121 s122 s123 s124 s125 s126 w13 hbX
      have hbE := Lib.hid (below_step bw12.out hbX)
      clear hbX
      go_wp2
      go_ret
      exact ⟨rfl, hbE.out⟩
end Go.Proofs.YtidgdfjnjgonoaaGreatDoor
