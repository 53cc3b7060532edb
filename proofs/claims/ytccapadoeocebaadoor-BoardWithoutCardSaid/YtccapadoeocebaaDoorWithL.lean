/-
  BoardWithout returns true.
-/
import Derived.Test.YtccapadoeocebaaDoorLawA
import Derived.Test.YtccapadoeocebaaDoorWithoutP
namespace Go.Proofs.YtccapadoeocebaaDoor
open Go Go.RowKit Go.Shelf

set_option maxRecDepth 100000 in
set_option maxHeartbeats 8000000 in
theorem withL_any (xs : Array Value) (x0 x1 x2 : Nat) (nx : Nat → Nat) (hx : RawIn xs x0 x1 x2 nx) (A : Nat) (hA : A ≤ 255) (w : World) (hR : RaysIn w) :
    Calls Tryd.prog 10 #[.agg xs, .int .u8 A] w fun e w' => e = .returned (.bool true) ∧ Below w.heap.size w w' := by
  go_enter Tryd.func10, Tryd.ntmps10
  go_wp2_with fail
  refine (sanity_any _ (hR.up (below_alloc (Below.refl _ _) _))).mono ?_
  rintro e w1 ⟨rfl, hb1⟩
  have hx1 : w1.heap[w.heap.size]? = some (.cells xs 24 (0, 0)) := (hb1.block w.heap.size (by rw [World.size_alloc]; omega)).trans (World.alloc_heap_new _ _)
  have hb1' : Below w.heap.size w w1 := below_step (below_alloc (Below.refl _ _) _) hb1
  clear hb1
  go_wp2_with (with_reducible refine wpList_load_row rfl 24 (.tmp 2) rfl w.heap.size rfl 24 xs (0, 0) _ hx1 Tryd.underlying24 rfl (by rw [hx.size]; exact info_raw) ?_)
  refine (wild_in hx w1).mono ?_
  rintro e w2 ⟨an, cn, at_, ct, rfl, hH2, hb2⟩
  have hsm := wild_small hx
  generalize wildS (1 + x0 % 8) (1 + x1 % 4) x2 nx = B at hH2 hsm ⊢
  have y1 := InBox.new cn ct hH2
  have hbw := below_alloc (below_step hb1' hb2) (.cells #[.int .i64 B.cells, .slice an B.next.length cn, .slice at_ B.turn.length ct] 31)
  have hB := hsm.ok
  have hlo := hB.lo
  have hc8 := hsm.cells
  have hd4 := hsm.dirs
  obtain ⟨n, hn⟩ := Int.eq_ofNat_of_zero_le (show 0 ≤ B.cells by omega)
  have hn1 : 1 ≤ n := by omega
  have hn8 : n ≤ 8 := by omega
  have hle1 : B.cells ≤ n := by omega
  have hle2 : (n : Int) ≤ B.cells := by omega
  obtain ⟨c, hc⟩ : ∃ c : Nat, c = A % n := ⟨_, rfl⟩
  have hcn : c < n := by rw [hc]; exact Nat.mod_lt _ (by omega)
  have r1 : (A : Int) % B.cells = (c : Int) := by rw [hn, hc]; exact (Int.natCast_emod _ _).symm
  have r2 : (A : Int).tmod B.cells = (c : Int) := by rw [← r1]; exact Int.tmod_eq_emod_of_nonneg (by omega)
  have r3 : (B.cells == 0) = false := by simp; omega
  have r4 : ¬ B.cells = 0 := by omega
  have hV := without_valid hsm.valid (c : Int)
  have hag := without_again B (c : Int)
  have halone := without_alone hsm.valid hn hcn
  have hto := fun (d k : Nat) (hd : d < B.next.length) (hk : (k : Int) < B.cells) => without_to (k := k) hsm.valid (c : Int) hd hk
  have hwo := without_any B hB hsm.turn1 an at_ cn ct c (by omega) (by omega) _ _ (Nat.le_refl _) y1.held
  have hVc : (withoutS B c).cells = B.cells := rfl
  have hVn : (withoutS B c).next.length = B.next.length := by simp [withoutS]
  have hVt : (withoutS B c).turn = B.turn := rfl
  have hpl : (partsS (withoutS B c)).length = n := parts_len hn
  obtain ⟨hVok, hVr, hVtl⟩ := ok_of_valid hV
  have hVt1 : 1 ≤ (withoutS B c).turn.length := hsm.turn1
  have t0 : ((withoutS B c).cells != B.cells) = false := by rw [hVc]; simp
  have t1 : (((withoutS B c).next.length : Int) != (B.next.length : Int)) = false := by rw [hVn]; simp
  have t1' : ((withoutS B c).next.length != B.next.length) = false := by rw [hVn]; simp
  have t2 : ((n : Int) != B.cells) = false := by simp; omega
  have t0' : ((withoutS B c).cells == B.cells) = true := by rw [hVc]; simp
  have t1'' : ((withoutS B c).next.length == B.next.length) = true := by rw [hVn]; simp
  have t2' : ((n : Int) == B.cells) = true := by simp; omega
  have hcV : (c : Int) < (withoutS B c).cells := by rw [hVc]; omega
  generalize withoutS B c = V at *
  have HT := Lib.hid hB.turn
  have HVT := Lib.hid hVt
  have HVN := Lib.hid hVn
  have HVC := Lib.hid hVc
  have HV := Lib.hid hV
  have HAG := Lib.hid hag
  have HAL := Lib.hid halone
  have HTO := Lib.hid hto
  have HPL := Lib.hid hpl
  have HWO := Lib.hid hwo
  clear hV hag halone hto hVc hVn hVt hpl hwo hn hc hb2 hH2 hx1 hb1'
  obtain ⟨c0, c1, c2, hH⟩ := id y1
  go_wp2_with fail
  refine HWO.out.mono ?_
  rintro e w3 ⟨an2, cn2, at2, ct2, rfl, hH3, hb3⟩
  replace y1 := (y1.up hb3).up (below_alloc (Below.refl _ _) (.cells #[.int .i64 V.cells, .slice an2 V.next.length cn2, .slice at2 V.turn.length ct2] 31))
  have y2 := InBox.new cn2 ct2 hH3
  replace hbw := below_alloc (below_step hbw hb3) (.cells #[.int .i64 V.cells, .slice an2 V.next.length cn2, .slice at2 V.turn.length ct2] 31)
  clear c0 c1 c2 hH hb3 hH3
  obtain ⟨c0, c1, c2, hH⟩ := id y1
  obtain ⟨d0, d1, d2, hH2⟩ := id y2
  go_wp2_with fail
  refine (valid_any V an2 at2 cn2 ct2 _ _ (Nat.le_refl _) hH2 hVr hVtl).mono ?_
  rintro e w4 ⟨rfl, hb4⟩
  rw [HV.out]
  replace y1 := y1.up hb4
  replace y2 := y2.up hb4
  replace hbw := below_step hbw hb4
  clear c0 c1 c2 hH d0 d1 d2 hH2 hb4
  obtain ⟨c0, c1, c2, hH⟩ := id y1
  obtain ⟨d0, d1, d2, hH2⟩ := id y2
  go_wp2_with fail
  refine (refValid_any V an2 at2 cn2 ct2 _ _ (Nat.le_refl _) hH2).mono ?_
  rintro e w5 ⟨rfl, hb5⟩
  rw [HV.out]
  replace y1 := y1.up hb5
  replace y2 := y2.up hb5
  replace hbw := below_step hbw hb5
  clear c0 c1 c2 hH d0 d1 d2 hH2 hb5
  obtain ⟨c0, c1, c2, hH⟩ := id y1
  obtain ⟨d0, d1, d2, hH2⟩ := id y2
  go_wp2_with fail
  have hwo2 := without_any V hVok hVt1 an2 at2 cn2 ct2 c (by omega) hcV _ _ (Nat.le_refl _) hH2
  rw [HAG.out] at hwo2
  refine hwo2.mono ?_
  clear hwo2
  rintro e w6 ⟨an3, cn3, at3, ct3, rfl, hH6, hb6⟩
  replace y1 := (y1.up hb6).up (below_alloc (Below.refl _ _) (.cells #[.int .i64 V.cells, .slice an3 V.next.length cn3, .slice at3 V.turn.length ct3] 31))
  replace y2 := (y2.up hb6).up (below_alloc (Below.refl _ _) (.cells #[.int .i64 V.cells, .slice an3 V.next.length cn3, .slice at3 V.turn.length ct3] 31))
  have y3 := InBox.new cn3 ct3 hH6
  replace hbw := below_alloc (below_step hbw hb6) (.cells #[.int .i64 V.cells, .slice an3 V.next.length cn3, .slice at3 V.turn.length ct3] 31)
  clear c0 c1 c2 hH d0 d1 d2 hH2 hb6 hH6
  obtain ⟨d0, d1, d2, hH2⟩ := id y2
  go_wp2_with fail
  refine (callsIn_wide.1 (parts_in V HV.out an2 at2 cn2 ct2 _ _ (Nat.le_refl _) hH2)).mono ?_
  rintro e w7 ⟨v7, rfl, hown7, hb7⟩
  obtain ⟨a7, cap7, rfl, hI7⟩ := OwnInts.ints hown7
  rw [HPL.out]
  obtain ⟨p1, p2, p3⟩ := HAL.out
  generalize partsS V = P at *
  replace y1 := y1.up hb7
  replace y2 := y2.up hb7
  replace y3 := y3.up hb7
  replace hbw := below_step hbw hb7
  clear d0 d1 d2 hH2 hb7 hown7
  obtain ⟨b5, off5, ha7, hb5, hcc⟩ := hI7.at_ (j := c) (by rw [HPL.out]; exact hcn)
  subst ha7
  rw [p1] at hcc
  have HP2 := Lib.hid p2
  have HP3 := Lib.hid p3
  clear p1 p2 p3
  obtain ⟨c0, c1, c2, _⟩ := id y1
  obtain ⟨d0, d1, d2, hH2⟩ := id y2
  obtain ⟨e0, e1, e2, hH3⟩ := id y3
  go_wp2_with fail
  refine (same_any V V an3 at3 an2 at2 cn3 ct3 cn2 ct2 _ _ (Nat.le_refl _) (by have := HVN.out; omega) (fun r hr => Nat.le_trans (hVr r hr) (by omega)) (by omega) hH3 hH2).mono ?_
  rintro e w8 ⟨rfl, hb8⟩
  rw [sameS_refl]
  replace y1 := y1.up hb8
  replace y2 := y2.up hb8
  have hI8 := hI7.up (Nat.le_refl _) hb8
  have hcc8 := cell_keep hb8 hcc
  replace hbw := below_step hbw hb8
  have hsz8 := hb8.size
  clear c0 c1 c2 d0 d1 d2 hH2 e0 e1 e2 hH3 hb8 hcc hI7 y3
  obtain ⟨c0, c1, c2, _⟩ := id y1
  obtain ⟨d0, d1, d2, hH2⟩ := id y2
  go_wp2_with fail
  refine (callsIn_wide.1 (near_in V hVok an2 at2 cn2 ct2 c _ _ (Nat.le_refl _) hH2)).mono ?_
  rintro e w9 ⟨v9, rfl, hown9, hb9⟩
  rw [HP3.out] at hown9
  obtain ⟨a9, cap9, rfl, _⟩ := OwnInts.ints hown9
  replace y1 := y1.up hb9
  replace y2 := y2.up hb9
  have hI9 := hI8.up hsz8 hb9
  replace hbw := below_step hbw hb9
  have hsz9 := Nat.le_trans hsz8 hb9.size
  clear c0 c1 c2 d0 d1 d2 hH2 hb9 hcc8 hI8 hown9 hsz8
  obtain ⟨c0, c1, c2, _⟩ := id y1
  go_wp2_with fail
  clear c0 c1 c2
  generalize w3.heap.size = q2 at *
  generalize w2.heap.size = q1 at *
  go_loopw [13] (fun i wr => ∃ k : Nat, k ≤ n ∧ i = .int .i64 k ∧ InBox wr q1 an at_ cn ct B ∧ InBox wr q2 an2 at2 cn2 ct2 V ∧ Ints w7.heap.size wr (some ⟨b5, off5, none⟩) P ∧ Below w.heap.size w wr ∧ w7.heap.size ≤ wr.heap.size)
    (fun i _ => n - (intOf i).toNat)
  case atStart => exact ⟨0, Nat.zero_le _, rfl, y1, y2, hI9, hbw, hsz9⟩
  case round =>
    clear y1 y2 hI9 hbw hsz9
    obtain ⟨k, hk, rfl, y1, y2, hI, hbw, hsz⟩ := hrel
    obtain ⟨c0, c1, c2, hH⟩ := id y1
    obtain ⟨d0, d1, d2, hH2⟩ := id y2
    by_cases hkn : k < n
    · have dk : decide ((k : Int) < B.cells) = true := by simp; omega
      obtain ⟨b', off', hab, _, hck⟩ := hI.at_ (j := k) (by rw [HPL.out]; exact hkn)
      cases hab
      by_cases hkc : k = c
      · subst hkc
        clear hck
        have hwant : ∀ x : Int, (if (k : Int) = (k : Int) ∨ x = (k : Int) then (-1 : Int) else x) = -1 := fun x => by rw [if_pos (.inl rfl)]
        have g1 : ((k : Int) == (k : Int)) = true := by simp
        go_wp2_with fail
        clear c0 c1 c2 hH d0 d1 d2 hH2
        go_loopw [14] (fun i wr => ∃ d : Nat, d ≤ B.next.length ∧ i = .int .i64 d ∧ InBox wr q1 an at_ cn ct B ∧ InBox wr q2 an2 at2 cn2 ct2 V ∧ Ints w7.heap.size wr (some ⟨b5, off5, none⟩) P ∧ Below w.heap.size w wr ∧ w7.heap.size ≤ wr.heap.size)
          (fun i _ => B.next.length - (intOf i).toNat)
        case atStart => exact ⟨0, Nat.zero_le _, rfl, y1, y2, hI, hbw, hsz⟩
        case round =>
          clear y1 y2 hI hbw hsz
          obtain ⟨d, hd, rfl, y1, y2, hI, hbw, hsz⟩ := hrel
          obtain ⟨c0, c1, c2, hH⟩ := id y1
          by_cases hdl : d < B.next.length
          · go_wp2_with fail
            refine (to_any B hB an at_ cn ct 0 d k _ wr (Nat.le_refl _) hH).mono ?_
            rintro e w10 ⟨rfl, hb10⟩
            have hv := HTO.out d k hdl (by omega)
            generalize toS B 0 d k = tb at hv ⊢
            replace y1 := y1.up hb10
            replace y2 := y2.up hb10
            replace hI := hI.up hsz hb10
            replace hbw := below_step hbw hb10
            replace hsz := Nat.le_trans hsz hb10.size
            clear c0 c1 c2 hH hb10
            obtain ⟨c0, c1, c2, hH⟩ := id y1
            obtain ⟨d0, d1, d2, hH2⟩ := id y2
            obtain ⟨bv, ov, hav, _, hcv⟩ := hH2.2.at_ (j := d) (by rw [HVT.out]; have := HT.out; omega)
            obtain ⟨bt, ot, hat, _, hcb⟩ := hH.2.at_ (j := d) (by have := HT.out; omega)
            subst hav
            subst hat
            have hdB : d < B.turn.length := by have := HT.out; omega
            have hdV : d < V.turn.length := by rw [HVT.out]; exact hdB
            rw [HVT.out] at hcv
            generalize B.turn[d]?.getD 0 = t at hcv hcb
            have HHV := Lib.hid hH2
            clear hH hH2
            rw [if_pos (.inl rfl)] at hv
            have HTV := Lib.hid hv
            clear hv
            go_wp2_with fail
            go_region_held3 (fun w' => w'.cell? ⟨q2, 0, none⟩ = some (.int .i64 V.cells) ∧ w'.cell? ⟨q2, 1, none⟩ = some (.slice an2 V.next.length cn2) ∧ w'.cell? ⟨q2, 2, none⟩ = some (.slice (some ⟨bv, ov, none⟩) V.turn.length ct2) ∧ w'.cell? ⟨q1, 2, none⟩ = some (.slice (some ⟨bt, ot, none⟩) B.turn.length ct) ∧ w'.cell? ⟨bv, ov + d, none⟩ = some (.int .i64 t) ∧ w'.cell? ⟨bt, ot + d, none⟩ = some (.int .i64 t) ∧ Below w10.heap.size w10 w')
              (first
                | (go_keep; done)
                | ((try go_split_ands)
                   refine ⟨?_, ?_, ?_, ?_, ?_, ?_, ?_⟩
                   · first | exact cell_keep (by assumption) (by assumption) | (go_keep; done)
                   · first | exact cell_keep (by assumption) (by assumption) | (go_keep; done)
                   · first | exact cell_keep (by assumption) (by assumption) | (go_keep; done)
                   · first | exact cell_keep (by assumption) (by assumption) | (go_keep; done)
                   · first | exact cell_keep (by assumption) (by assumption) | (go_keep; done)
                   · first | exact cell_keep (by assumption) (by assumption) | (go_keep; done)
                   · (repeat (first | exact Below.refl _ _ | assumption | refine below_alloc ?_ _ | refine Below.drew ?_ | refine below_drewN_ ?_ _ | refine below_step ?_ (by assumption)))))
              (first | (go_at_call 13; refine (to_any V hVok an2 _ cn2 ct2 0 d k _ _ (by have : Below w10.heap.size w10 w10.drew := (Below.refl _ _).drew; exact this.size) (HHV.out.up (Nat.le_refl _) (by (repeat (first | exact Below.refl _ _ | assumption | refine below_alloc ?_ _ | refine Below.drew ?_ | refine below_drewN_ ?_ _ | refine below_step ?_ (by assumption)))))).mono ?_; rintro e w' ⟨rfl, hbb⟩; rw [HTV.out]))
            rename_i hS
            have hbX := hS.2.2.2.2.2.2
            clear hS c0 c1 c2 d0 d1 d2 hcv hcb
            go_wp2
            go_roundw
            case rel => exact ⟨d + 1, by omega, by simp, y1.up hbX, y2.up hbX, hI.up hsz hbX, below_step hbw hbX, Nat.le_trans hsz hbX.size⟩
            case measure => simp [intOf]; omega
          · go_wp2
            go_roundw
            case rel => exact ⟨k + 1, by omega, by simp, y1, y2, hI, hbw, hsz⟩
            case measure => simp [intOf]; omega
      · have hpk := HP2.out k hkn hkc
        generalize P[k]?.getD 0 = pk at hck hpk
        have g1 : ((k : Int) == (c : Int)) = false := by simp; omega
        have g2 : ((k : Int) != (c : Int)) = true := by simp; omega
        have g3 : decide ((k : Int) = (c : Int)) = false := by simp; omega
        have g4 : (k == c) = false := by simp; omega
        have g5 : decide (k = c) = false := by simpa using hkc
        have g6 : (pk == (c : Int)) = false := by simpa using hpk
        have g7 : decide (pk = (c : Int)) = false := by simpa using hpk
        clear hpk
        go_wp2_with fail
        clear c0 c1 c2 hH d0 d1 d2 hH2 hck
        go_loopw [14] (fun i wr => ∃ d : Nat, d ≤ B.next.length ∧ i = .int .i64 d ∧ InBox wr q1 an at_ cn ct B ∧ InBox wr q2 an2 at2 cn2 ct2 V ∧ Ints w7.heap.size wr (some ⟨b5, off5, none⟩) P ∧ Below w.heap.size w wr ∧ w7.heap.size ≤ wr.heap.size)
          (fun i _ => B.next.length - (intOf i).toNat)
        case atStart => exact ⟨0, Nat.zero_le _, rfl, y1, y2, hI, hbw, hsz⟩
        case round =>
          clear y1 y2 hI hbw hsz
          obtain ⟨d, hd, rfl, y1, y2, hI, hbw, hsz⟩ := hrel
          obtain ⟨c0, c1, c2, hH⟩ := id y1
          by_cases hdl : d < B.next.length
          · go_wp2_with fail
            refine (to_any B hB an at_ cn ct 0 d k _ wr (Nat.le_refl _) hH).mono ?_
            rintro e w10 ⟨rfl, hb10⟩
            have hv := HTO.out d k hdl (by omega)
            generalize toS B 0 d k = tb at hv ⊢
            replace y1 := y1.up hb10
            replace y2 := y2.up hb10
            replace hI := hI.up hsz hb10
            replace hbw := below_step hbw hb10
            replace hsz := Nat.le_trans hsz hb10.size
            clear c0 c1 c2 hH hb10
            obtain ⟨c0, c1, c2, hH⟩ := id y1
            obtain ⟨d0, d1, d2, hH2⟩ := id y2
            obtain ⟨bv, ov, hav, _, hcv⟩ := hH2.2.at_ (j := d) (by rw [HVT.out]; have := HT.out; omega)
            obtain ⟨bt, ot, hat, _, hcb⟩ := hH.2.at_ (j := d) (by have := HT.out; omega)
            subst hav
            subst hat
            have hdB : d < B.turn.length := by have := HT.out; omega
            have hdV : d < V.turn.length := by rw [HVT.out]; exact hdB
            rw [HVT.out] at hcv
            generalize B.turn[d]?.getD 0 = t at hcv hcb
            have HHV := Lib.hid hH2
            clear hH hH2
            by_cases htc : tb = (c : Int)
            · rw [if_pos (.inr htc)] at hv
              have h1 : (tb == (c : Int)) = true := by simpa using htc
              have h2 : decide (tb = (c : Int)) = true := by simpa using htc
              clear htc
              have HTV := Lib.hid hv
              clear hv
              go_wp2_with fail
              go_region_held3 (fun w' => w'.cell? ⟨q2, 0, none⟩ = some (.int .i64 V.cells) ∧ w'.cell? ⟨q2, 1, none⟩ = some (.slice an2 V.next.length cn2) ∧ w'.cell? ⟨q2, 2, none⟩ = some (.slice (some ⟨bv, ov, none⟩) V.turn.length ct2) ∧ w'.cell? ⟨q1, 2, none⟩ = some (.slice (some ⟨bt, ot, none⟩) B.turn.length ct) ∧ w'.cell? ⟨bv, ov + d, none⟩ = some (.int .i64 t) ∧ w'.cell? ⟨bt, ot + d, none⟩ = some (.int .i64 t) ∧ Below w10.heap.size w10 w')
                (first
                  | (go_keep; done)
                  | ((try go_split_ands)
                     refine ⟨?_, ?_, ?_, ?_, ?_, ?_, ?_⟩
                     · first | exact cell_keep (by assumption) (by assumption) | (go_keep; done)
                     · first | exact cell_keep (by assumption) (by assumption) | (go_keep; done)
                     · first | exact cell_keep (by assumption) (by assumption) | (go_keep; done)
                     · first | exact cell_keep (by assumption) (by assumption) | (go_keep; done)
                     · first | exact cell_keep (by assumption) (by assumption) | (go_keep; done)
                     · first | exact cell_keep (by assumption) (by assumption) | (go_keep; done)
                     · (repeat (first | exact Below.refl _ _ | assumption | refine below_alloc ?_ _ | refine Below.drew ?_ | refine below_drewN_ ?_ _ | refine below_step ?_ (by assumption)))))
                (first | (go_at_call 13; refine (to_any V hVok an2 _ cn2 ct2 0 d k _ _ (by have : Below w10.heap.size w10 w10.drew := (Below.refl _ _).drew; exact this.size) (HHV.out.up (Nat.le_refl _) (by (repeat (first | exact Below.refl _ _ | assumption | refine below_alloc ?_ _ | refine Below.drew ?_ | refine below_drewN_ ?_ _ | refine below_step ?_ (by assumption)))))).mono ?_; rintro e w' ⟨rfl, hbb⟩; rw [HTV.out]))
              rename_i hS
              have hbX := hS.2.2.2.2.2.2
              clear hS c0 c1 c2 d0 d1 d2 hcv hcb
              go_wp2
              go_roundw
              case rel => exact ⟨d + 1, by omega, by simp, y1.up hbX, y2.up hbX, hI.up hsz hbX, below_step hbw hbX, Nat.le_trans hsz hbX.size⟩
              case measure => simp [intOf]; omega
            · rw [if_neg (by rintro (h | h); omega; exact htc h)] at hv
              have h1 : (tb == (c : Int)) = false := by simpa using htc
              have h2 : decide (tb = (c : Int)) = false := by simpa using htc
              clear htc
              have HTV := Lib.hid hv
              clear hv
              go_wp2_with fail
              go_region_held3 (fun w' => w'.cell? ⟨q2, 0, none⟩ = some (.int .i64 V.cells) ∧ w'.cell? ⟨q2, 1, none⟩ = some (.slice an2 V.next.length cn2) ∧ w'.cell? ⟨q2, 2, none⟩ = some (.slice (some ⟨bv, ov, none⟩) V.turn.length ct2) ∧ w'.cell? ⟨q1, 2, none⟩ = some (.slice (some ⟨bt, ot, none⟩) B.turn.length ct) ∧ w'.cell? ⟨bv, ov + d, none⟩ = some (.int .i64 t) ∧ w'.cell? ⟨bt, ot + d, none⟩ = some (.int .i64 t) ∧ Below w10.heap.size w10 w')
                (first
                  | (go_keep; done)
                  | ((try go_split_ands)
                     refine ⟨?_, ?_, ?_, ?_, ?_, ?_, ?_⟩
                     · first | exact cell_keep (by assumption) (by assumption) | (go_keep; done)
                     · first | exact cell_keep (by assumption) (by assumption) | (go_keep; done)
                     · first | exact cell_keep (by assumption) (by assumption) | (go_keep; done)
                     · first | exact cell_keep (by assumption) (by assumption) | (go_keep; done)
                     · first | exact cell_keep (by assumption) (by assumption) | (go_keep; done)
                     · first | exact cell_keep (by assumption) (by assumption) | (go_keep; done)
                     · (repeat (first | exact Below.refl _ _ | assumption | refine below_alloc ?_ _ | refine Below.drew ?_ | refine below_drewN_ ?_ _ | refine below_step ?_ (by assumption)))))
                (first | (go_at_call 13; refine (to_any V hVok an2 _ cn2 ct2 0 d k _ _ (by have : Below w10.heap.size w10 w10.drew := (Below.refl _ _).drew; exact this.size) (HHV.out.up (Nat.le_refl _) (by (repeat (first | exact Below.refl _ _ | assumption | refine below_alloc ?_ _ | refine Below.drew ?_ | refine below_drewN_ ?_ _ | refine below_step ?_ (by assumption)))))).mono ?_; rintro e w' ⟨rfl, hbb⟩; rw [HTV.out]))
              rename_i hS
              have hbX := hS.2.2.2.2.2.2
              clear hS c0 c1 c2 d0 d1 d2 hcv hcb
              go_wp2
              go_roundw
              case rel => exact ⟨d + 1, by omega, by simp, y1.up hbX, y2.up hbX, hI.up hsz hbX, below_step hbw hbX, Nat.le_trans hsz hbX.size⟩
              case measure => simp [intOf]; omega
          · go_wp2
            go_roundw
            case rel => exact ⟨k + 1, by omega, by simp, y1, y2, hI, hbw, hsz⟩
            case measure => simp [intOf]; omega
    · go_wp2
      go_ret
      exact ⟨rfl, hbw⟩

theorem withL_any_int (xs : Array Value) (x0 x1 x2 : Nat) (nx : Nat → Nat) (hx : RawIn xs x0 x1 x2 nx) (A : Int) (hA : 0 ≤ A ∧ A ≤ 255) (w : World) (hR : RaysIn w) :
    Calls Tryd.prog 10 #[.agg xs, .int .u8 A] w fun e w' => e = .returned (.bool true) ∧ Below w.heap.size w w' := by
  obtain ⟨A', rfl⟩ := Int.eq_ofNat_of_zero_le hA.1
  exact withL_any xs x0 x1 x2 nx hx A' (by omega) w hR
end Go.Proofs.YtccapadoeocebaaDoor
