/-
  BoardSides returns true.
-/
import Derived.Test.YtccapadoeocebaaDoorLawA
namespace Go.Proofs.YtccapadoeocebaaDoor
open Go Go.RowKit Go.Shelf

set_option maxRecDepth 100000 in
set_option maxHeartbeats 8000000 in
theorem sides_any (xs : Array Value) (x0 x1 x2 : Nat) (nx : Nat → Nat) (hx : RawIn xs x0 x1 x2 nx) (n : Int) (hn0 : -32768 ≤ n) (hn1 : n ≤ 32767) (w : World) (hR : RaysIn w) :
    Calls Tryd.prog 5 #[.agg xs, .int .i16 n] w fun e w' => e = .returned (.bool true) ∧ Below w.heap.size w w' := by
  go_enter Tryd.func5, Tryd.ntmps5
  go_wp2_with fail
  refine (sanity_any _ (hR.up (below_alloc (Below.refl _ _) _))).mono ?_
  rintro e w1 ⟨rfl, hb1⟩
  have hx1 : w1.heap[w.heap.size]? = some (.cells xs 24 (0, 0)) := (hb1.block w.heap.size (by rw [World.size_alloc]; omega)).trans (World.alloc_heap_new _ _)
  have hb1' : Below w.heap.size w w1 := below_step (below_alloc (Below.refl _ _) _) hb1
  clear hb1
  go_wp2_with (with_reducible refine wpList_load_row rfl 24 (.tmp 2) rfl w.heap.size rfl 24 xs (0, 0) _ hx1 Tryd.underlying24 rfl (by rw [hx.size]; exact info_raw) ?_)
  refine (wild_in hx w1).mono ?_
  rintro e w2 ⟨an, cn, at_, ct, rfl, hH2, hb2⟩
  have hsm := wild_small hx
  generalize wildS (1 + x0 % 8) (1 + x1 % 4) x2 nx = B at hH2 hsm ⊢
  have y1 := InBox.new cn ct hH2
  have hb2' := below_alloc (below_step hb1' hb2) (.cells #[.int .i64 B.cells, .slice an B.next.length cn, .slice at_ B.turn.length ct] 31)
  obtain ⟨c0, c1, c2, _⟩ := id y1
  have hB := hsm.ok
  have hlo := hB.lo
  have hc8 := hsm.cells
  have hd4 := hsm.dirs
  have ht0 := hB.turn
  have HT := Lib.hid ht0
  have hbs : w2.heap.size < (w2.alloc (.cells #[.int .i64 B.cells, .slice an B.next.length cn, .slice at_ B.turn.length ct] 31)).heap.size := by rw [World.size_alloc]; omega
  clear hb2 hH2 hx1 hb1' ht0
  go_wp2_with fail
  generalize w2.alloc (.cells #[.int .i64 B.cells, .slice an B.next.length cn, .slice at_ B.turn.length ct] 31) = w3 at *
  generalize w2.heap.size = b1 at *
  clear c0 c1 c2
  go_loopw [7] (fun i wr => ∃ d : Nat, d ≤ B.next.length ∧ i = .int .i64 d ∧ InBox wr b1 an at_ cn ct B ∧ Below w.heap.size w wr)
    (fun i _ => B.next.length - (intOf i).toNat)
  case atStart => exact ⟨0, Nat.zero_le _, rfl, y1, hb2'⟩
  case round =>
    clear y1 hb2'
    obtain ⟨d, hd, rfl, y1, hbw⟩ := hrel
    obtain ⟨c0, c1, c2, hH⟩ := id y1
    by_cases hlt : d < B.next.length
    · go_wp2_with fail
      clear c0 c1 c2 hH
      go_loopw [8] (fun i wr => ∃ c : Nat, (c : Int) ≤ B.cells ∧ i = .int .i64 c ∧ InBox wr b1 an at_ cn ct B ∧ Below w.heap.size w wr)
        (fun i _ => B.cells.toNat - (intOf i).toNat)
      case atStart => exact ⟨0, by omega, rfl, y1, hbw⟩
      case round =>
        clear y1 hbw
        obtain ⟨c, hc, rfl, y1, hbw⟩ := hrel
        obtain ⟨c0, c1, c2, hH⟩ := id y1
        by_cases hcl : (c : Int) < B.cells
        · obtain ⟨t, ht, htn, htd⟩ := hsm.turn_at hlt
          have hA := toS_zero hB hlt hcl
          have hBb := toS_one (c := c) hB hlt hcl ht htn
          have hC := toS_zero (c := c) hB htn hcl
          have hD := toS_one (c := c) hB htn hcl htd hlt
          obtain ⟨b, off, aj, cj, hab, hbN, hcr, hI⟩ := hH.1.at_ hlt
          subst hab
          have hrl := hB.row d hlt
          generalize hr : B.next[d]?.getD [] = r at hcr hI hrl hA hD
          obtain ⟨b2, off2, haj, hb2, hcc⟩ := hI.at_ (j := c) (by omega)
          subst haj
          generalize r[c]?.getD 0 = y at hcc hA hD
          obtain ⟨b3, off3, hat, hb3, hct⟩ := hH.2.at_ (j := d) (by have := HT.out; omega)
          subst hat
          rw [ht] at hct
          have hdt : d < B.turn.length := by have := HT.out; omega
          generalize (B.next[t]?.getD [])[c]?.getD 0 = z at hBb hC
          have hcl' : c < r.length := by omega
          have HA := Lib.hid hA
          have HB := Lib.hid hBb
          have HC := Lib.hid hC
          have HD := Lib.hid hD
          clear hA hBb hC hD hr hrl ht htd
          have hto : ∀ (side dd cc : Int) (W : World), Below wr.heap.size wr W → Calls Tryd.prog 13 #[.agg #[.int .i64 B.cells, .slice (some ⟨b, off, none⟩) B.next.length cn, .slice (some ⟨b3, off3, none⟩) B.turn.length ct], .int .i64 side, .int .i64 dd, .int .i64 cc] W fun e w' => e = .returned (.int .i64 (toS B side dd cc)) ∧ Below W.heap.size W w' := fun side dd cc W hW => to_any B hB _ _ cn ct side dd cc _ W hW.size (hH.up (Nat.le_refl _) hW)
          have HTO := Lib.hid hto
          clear hto
          go_wp2_with (go_at_call 13; refine (HTO.out _ _ _ _ (Below.refl _ _)).mono ?_; rintro e w4 ⟨rfl, hb4⟩; rw [HA.out])
          have e0 := cell_keep hb4 c0
          have e1 := cell_keep hb4 c1
          have e2 := cell_keep hb4 c2
          have er := cell_keep hb4 hcr
          have ee := cell_keep hb4 hcc
          have et := cell_keep hb4 hct
          clear c0 c1 c2 hcr hcc hct hH hI
          have dz : decide ((d : Int) < (B.next.length : Int)) = true := by simpa using hlt
          go_region_held3 (fun w' => w'.cell? ⟨b1, 0, none⟩ = some (.int .i64 B.cells) ∧ w'.cell? ⟨b1, 1, none⟩ = some (.slice (some ⟨b, off, none⟩) B.next.length cn) ∧ w'.cell? ⟨b1, 2, none⟩ = some (.slice (some ⟨b3, off3, none⟩) B.turn.length ct) ∧ w'.cell? ⟨b, off + d, none⟩ = some (.slice (some ⟨b2, off2, none⟩) r.length cj) ∧ w'.cell? ⟨b2, off2 + c, none⟩ = some (.int .i64 y) ∧ w'.cell? ⟨b3, off3 + d, none⟩ = some (.int .i64 (t : Int)) ∧ Below wr.heap.size wr w')
            (first
              | (go_keep; done)
              | ((try go_split_ands)
                 refine ⟨?_, ?_, ?_, ?_, ?_, ?_, ?_⟩
                 · first | exact cell_keep (by assumption) (by assumption) | (go_keep; done)
                 · first | exact cell_keep (by assumption) (by assumption) | (go_keep; done)
                 · first | exact cell_keep (by assumption) (by assumption) | (go_keep; done)
                 · first | exact cell_keep (by assumption) (by assumption) | (go_keep; done)
                 · first | exact cell_keep (by assumption) (by assumption) | (go_keep; done)
                 · first | exact cell_keep (by assumption) (by assumption) | (go_keep; done)
                 · (repeat (first | exact Below.refl _ _ | assumption | refine below_alloc ?_ _ | refine Below.drew ?_ | refine below_drewN_ ?_ _ | refine below_step ?_ (by assumption)))))
            (first | (go_at_call 13; refine (HTO.out _ _ _ _ (by (repeat (first | exact Below.refl _ _ | assumption | refine below_alloc ?_ _ | refine Below.drew ?_ | refine below_drewN_ ?_ _ | refine below_step ?_ (by assumption))))).mono ?_; rintro e w' ⟨rfl, hbb⟩; (first | rw [HB.out] | rw [HC.out] | rw [HD.out])))
          rename_i hS
          have hbX := hS.2.2.2.2.2.2
          clear hS
          obtain ⟨c0, c1, c2, _⟩ := y1.up hbX
          by_cases hn : 0 ≤ n
          · go_wp2_with fail
            refine (HTO.out (n + 8) _ _ _ hbX).mono ?_
            rintro e w6 ⟨rfl, hb6⟩
            rw [toS_none hB (by omega)]
            have hb6' := below_step hbX hb6
            clear c0 c1 c2
            obtain ⟨c0, c1, c2, _⟩ := y1.up hb6'
            clear hb6
            go_wp2_with fail
            refine (HTO.out 0 (n + 8) _ _ hb6').mono ?_
            rintro e w7 ⟨rfl, hb7⟩
            rw [toS_none hB (by omega)]
            have hb7' := below_step hb6' hb7
            clear c0 c1 c2 hb7
            obtain ⟨c0, c1, c2, _⟩ := y1.up hb7'
            go_wp2_with fail
            refine (HTO.out 1 _ (n + 8) _ hb7').mono ?_
            rintro e w8 ⟨rfl, hb8⟩
            rw [toS_none hB (by omega)]
            have hb8' := below_step hb7' hb8
            clear c0 c1 c2 hb8
            obtain ⟨c0, c1, c2, hH⟩ := y1.up hb8'
            go_wp2_with fail
            refine (line_any B hB _ _ cn ct 0 (n + 8) c _ w8 (Nat.le_refl _) hH).mono ?_
            rintro e w9 ⟨v9, rfl, hown, hb9⟩
            rw [line_none HT.out c (n + 8) (by omega)] at hown
            obtain ⟨a9, cap9, rfl, _⟩ := OwnInts.ints hown
            have hb9' := below_step hb8' hb9
            have y9 := y1.up hb9'
            have hbw9 := below_step hbw hb9'
            clear c0 c1 c2 hb9 hown
            go_wp2
            go_roundw
            case rel => exact ⟨c + 1, by omega, by simp, y9, hbw9⟩
            case measure => simp [intOf]; omega
          · have hn' : decide (0 ≤ n) = false := by simpa using hn
            go_wp2_with fail
            refine (HTO.out n _ _ _ hbX).mono ?_
            rintro e w6 ⟨rfl, hb6⟩
            rw [toS_none hB (by omega)]
            have hb6' := below_step hbX hb6
            clear c0 c1 c2
            obtain ⟨c0, c1, c2, _⟩ := y1.up hb6'
            clear hb6
            go_wp2_with fail
            refine (HTO.out 0 n _ _ hb6').mono ?_
            rintro e w7 ⟨rfl, hb7⟩
            rw [toS_none hB (by omega)]
            have hb7' := below_step hb6' hb7
            clear c0 c1 c2 hb7
            obtain ⟨c0, c1, c2, _⟩ := y1.up hb7'
            go_wp2_with fail
            refine (HTO.out 1 _ n _ hb7').mono ?_
            rintro e w8 ⟨rfl, hb8⟩
            rw [toS_none hB (by omega)]
            have hb8' := below_step hb7' hb8
            clear c0 c1 c2 hb8
            obtain ⟨c0, c1, c2, hH⟩ := y1.up hb8'
            go_wp2_with fail
            refine (line_any B hB _ _ cn ct 0 n c _ w8 (Nat.le_refl _) hH).mono ?_
            rintro e w9 ⟨v9, rfl, hown, hb9⟩
            rw [line_none HT.out c n (by omega)] at hown
            obtain ⟨a9, cap9, rfl, _⟩ := OwnInts.ints hown
            have hb9' := below_step hb8' hb9
            have y9 := y1.up hb9'
            have hbw9 := below_step hbw hb9'
            clear c0 c1 c2 hb9 hown
            go_wp2
            go_roundw
            case rel => exact ⟨c + 1, by omega, by simp, y9, hbw9⟩
            case measure => simp [intOf]; omega
        · go_wp2
          go_roundw
          case rel => exact ⟨d + 1, by omega, by simp, y1, hbw⟩
          case measure => simp [intOf]; omega
    · go_wp2
      go_ret
      exact ⟨rfl, hbw⟩
end Go.Proofs.YtccapadoeocebaaDoor
