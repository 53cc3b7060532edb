/-
  BoardLines returns true.
-/
import Derived.Test.YtccapadoeocebaaDoorLawA
import Derived.Test.YtccapadoeocebaaDoorLineP
namespace Go.Proofs.YtccapadoeocebaaDoor
open Go Go.RowKit Go.Shelf

set_option maxRecDepth 100000 in
set_option maxHeartbeats 8000000 in
theorem lines_any (xs : Array Value) (x0 x1 x2 : Nat) (nx : Nat → Nat) (hx : RawIn xs x0 x1 x2 nx) (sd : Bool) (w : World) (hR : RaysIn w) :
    Calls Tryd.prog 6 #[.agg xs, .bool sd] w fun e w' => e = .returned (.bool true) ∧ Below w.heap.size w w' := by
  go_enter Tryd.func6, Tryd.ntmps6
  go_wp2_with fail
  refine (sanity_any _ (hR.up (below_alloc (Below.refl _ _) _))).mono ?_
  rintro e w1 ⟨rfl, hb1⟩
  have hx1 : w1.heap[w.heap.size]? = some (.cells xs 24 (0, 0)) := (hb1.block w.heap.size (by rw [World.size_alloc]; omega)).trans (World.alloc_heap_new _ _)
  have hb1' : Below w.heap.size w w1 := below_step (below_alloc (Below.refl _ _) _) hb1
  clear hb1
  go_wp2_with (with_reducible refine wpList_load_row rfl 24 (.tmp 2) rfl w.heap.size rfl 24 xs (0, 0) _ hx1 Tryd.underlying24 rfl (by rw [hx.size]; exact info_raw) ?_)
  refine (wild_in hx w1).mono ?_
  rintro e w2 ⟨an, cn, at_, ct, rfl, hH2, hb2⟩
  have hsm := wild_small hx
  generalize wildS (1 + x0 % 8) (1 + x1 % 4) x2 nx = B at hH2 hsm ⊢
  have y1 := InBox.new cn ct hH2
  have hb2' := below_alloc (below_step hb1' hb2) (.cells #[.int .i64 B.cells, .slice an B.next.length cn, .slice at_ B.turn.length ct] 31)
  obtain ⟨c0, c1, c2, _⟩ := id y1
  have hB := hsm.ok
  have hlo := hB.lo
  have hc8 := hsm.cells
  have hd4 := hsm.dirs
  have ht0 := hB.turn
  have HT := Lib.hid ht0
  clear hb2 hH2 hx1 hb1' ht0
  cases sd
  case false =>
    go_wp2_with fail
    generalize w2.alloc (.cells #[.int .i64 B.cells, .slice an B.next.length cn, .slice at_ B.turn.length ct] 31) = w3 at *
    generalize w2.heap.size = b1 at *
    clear c0 c1 c2
    go_loopw [8] (fun i wr => ∃ d : Nat, d ≤ B.next.length ∧ i = .int .i64 d ∧ InBox wr b1 an at_ cn ct B ∧ Below w.heap.size w wr)
      (fun i _ => B.next.length - (intOf i).toNat)
    case atStart => exact ⟨0, Nat.zero_le _, rfl, y1, hb2'⟩
    case round =>
      clear y1 hb2'
      obtain ⟨d, hd, rfl, y1, hbw⟩ := hrel
      obtain ⟨c0, c1, c2, hH⟩ := id y1
      by_cases hlt : d < B.next.length
      · go_wp2_with fail
        clear c0 c1 c2 hH
        go_loopw [9] (fun i wr => ∃ c : Nat, (c : Int) ≤ B.cells ∧ i = .int .i64 c ∧ InBox wr b1 an at_ cn ct B ∧ Below w.heap.size w wr)
          (fun i _ => B.cells.toNat - (intOf i).toNat)
        case atStart => exact ⟨0, by omega, rfl, y1, hbw⟩
        case round =>
          clear y1 hbw
          obtain ⟨c, hc, rfl, y1, hbw⟩ := hrel
          obtain ⟨c0, c1, c2, hH⟩ := id y1
          by_cases hcl : (c : Int) < B.cells
          · go_wp2_with fail
            refine (line_any B hB an at_ cn ct 0 d c _ wr (Nat.le_refl _) hH).mono ?_
            rintro e w4 ⟨v4, rfl, hown4, hb4⟩
            obtain ⟨hch, hstop⟩ := line_spec hB 0 d c ⟨by omega, hcl⟩
            generalize lineOf B 0 d c = L at hown4 hch hstop
            have hshort := hch.short ⟨by omega, hcl⟩
            obtain ⟨a4, cap4, rfl, hI4⟩ := OwnInts.ints hown4
            have y4 := y1.up hb4
            have hbw4 := below_step hbw hb4
            clear c0 c1 c2 hH hb4 hown4 y1 hbw
            obtain ⟨c0, c1, c2, hH⟩ := id y4
            have hge : decide (B.cells ≤ (L.length : Int)) = false := by simp; omega
            have HST := Lib.hid hstop
            have HCH := Lib.hid hch
            clear hstop hch
            go_wp2_with fail
            have hs5 : OwnInts w4.heap.size (w4.alloc (.cells #[.int .i64 (c : Int)] 3)) (.slice (some ⟨w4.heap.size, 0, none⟩) 1 1) (((c : Int) :: L).take (0 + 1)) := own_lit w4 c
            have hb5 : Below w4.heap.size w4 (w4.alloc (.cells #[.int .i64 (c : Int)] 3)) := (Below.refl _ _).alloc (Nat.le_refl _) _
            clear c0 c1 c2 hH
            go_loopw [11, 12, 13] (fun a sn i wi => ∃ k : Nat, k ≤ L.length ∧ i = .int .i64 k ∧ a = .int .i64 (atS c L k) ∧ OwnInts w4.heap.size wi sn (((c : Int) :: L).take (k + 1)) ∧ Below w4.heap.size w4 wi)
              (fun _ _ i _ => L.length - (intOf i).toNat)
            case atStart => exact ⟨0, Nat.zero_le _, rfl, rfl, hs5, hb5⟩
            case round =>
              clear hs5 hb5
              obtain ⟨k, hk, rfl, rfl, hsn, hbi⟩ := hrel
              have y5 := y4.up hbi
              obtain ⟨c0, c1, c2, hH⟩ := id y5
              obtain ⟨as_, caps, rfl, hIs⟩ := OwnInts.ints hsn
              have hSl : (((c : Int) :: L).take (k + 1)).length = k + 1 := by simp; omega
              by_cases hkl : k < L.length
              · have hstep := HCH.out.step k hkl
                have hfr := HCH.out.fresh hkl
                have hat1 : atS c L (k + 1) = L[k]?.getD 0 := by unfold atS; rw [List.getElem?_cons_succ]
                have htk := take_at c L k hk
                rw [if_pos hkl] at htk
                obtain ⟨b4, off4, ha4, hb4n, hc4⟩ := (hI4.up (Nat.le_refl _) hbi).at_ hkl
                subst ha4
                have hto : toS B 0 d (atS c L k) = L[k]?.getD 0 := hstep.symm
                generalize L[k]?.getD 0 = x at hc4 hto hfr hat1 htk
                generalize atS c L k = at0 at hto
                generalize ((c : Int) :: L).take (k + 1) = S at *
                have hkl2 : decide ((k : Int) < (L.length : Int)) = true := by simpa using hkl
                have hdf : decide (x ∈ S) = false := by simpa using hfr
                have HTO := Lib.hid hto
                have HDF := Lib.hid hdf
                have HTK := Lib.hid htk
                have HAT := Lib.hid hat1
                have HSL := Lib.hid hSl
                have HIS := Lib.hid hIs
                have HHH := Lib.hid hH
                have HSN := Lib.hid hsn
                clear hto hdf hfr htk hat1 hSl hstep hIs hH hsn
                go_wp2_with fail
                go_region_held3 (fun w' => w'.cell? ⟨b1, 0, none⟩ = some (.int .i64 B.cells) ∧ w'.cell? ⟨b1, 1, none⟩ = some (.slice an B.next.length cn) ∧ w'.cell? ⟨b1, 2, none⟩ = some (.slice at_ B.turn.length ct) ∧ w'.cell? ⟨b4, off4 + k, none⟩ = some (.int .i64 x) ∧ Below wr.heap.size wr w')
                  (first
                    | (go_keep; done)
                    | ((try go_split_ands)
                       refine ⟨?_, ?_, ?_, ?_, ?_⟩
                       · first | exact cell_keep (by assumption) (by assumption) | (go_keep; done)
                       · first | exact cell_keep (by assumption) (by assumption) | (go_keep; done)
                       · first | exact cell_keep (by assumption) (by assumption) | (go_keep; done)
                       · first | exact cell_keep (by assumption) (by assumption) | (go_keep; done)
                       · (repeat (first | exact Below.refl _ _ | assumption | refine below_alloc ?_ _ | refine Below.drew ?_ | refine below_drewN_ ?_ _ | refine below_step ?_ (by assumption)))))
                  (first | (go_at_call 13; refine (to_any B hB an at_ cn ct 0 d at0 _ _ (by have : Below wr.heap.size wr wr.drew := (Below.refl _ _).drew; exact this.size) (HHH.out.up (Nat.le_refl _) (by (repeat (first | exact Below.refl _ _ | assumption | refine below_alloc ?_ _ | refine Below.drew ?_ | refine below_drewN_ ?_ _ | refine below_step ?_ (by assumption)))))).mono ?_; rintro e w' ⟨rfl, hbb⟩; rw [HTO.out]) | (go_at_call 30; refine (has_any S x as_ caps _ _ (by rw [HSL.out]; omega) (HIS.out.up (Nat.le_refl _) (by (repeat (first | exact Below.refl _ _ | assumption | refine below_alloc ?_ _ | refine Below.drew ?_ | refine below_drewN_ ?_ _ | refine below_step ?_ (by assumption)))))).mono ?_; rintro e w' ⟨rfl, rfl⟩; rw [HDF.out]))
                rename_i hS
                clear c0 c1 c2
                obtain ⟨c0, c1, c2, hcx, hbX⟩ := hS
                have hsN : OwnInts w4.heap.size w' (.slice as_ S.length caps) S := HSN.out.alters (S := fun _ => False) (Alters.of_below hbX) (fun _ h => h.elim)
                have hbX4 : Below w4.heap.size w4 w' := hbi.trans (hbX.mono hbi.size)
                have hAB : Below w'.heap.size w' (w'.alloc (.cells #[.int .i64 x] 3)) := (Below.refl _ _).alloc (Nat.le_refl _) _
                have HNA := Lib.hid (hsN.alters (S := fun _ => False) (Alters.of_below hAB) (fun _ h => h.elim))
                have HN := Lib.hid hsN
                clear hsN
                go_wp2_with (at_builtin; go_loud (refine wpList_push rfl (.tmp 73) (.tmp 75) rfl w4.heap.size _ S rfl HNA.out (by rw [HSL.out]; omega) (Nat.le_trans hbX4.size hAB.size) ⟨w'.heap.size, 0, none⟩ x rfl (cell_new_at _ _ _ _ _ _ rfl rfl) ?_; intro g6 cap6 w6 hown6 hg6 hat6))
                have hb6 := push_below hbX4 hAB hbX4.size HN.out hg6
                clear hat6
                go_roundw
                case rel => exact ⟨k + 1, by omega, by simp, by rw [HAT.out], by rw [← HTK.out]; exact hown6, hb6⟩
                case measure => simp [intOf]; omega
              · obtain rfl : k = L.length := by omega
                have hkl2 : decide ((L.length : Int) < (L.length : Int)) = false := by simp
                have hSf : ((c : Int) :: L).take (L.length + 1) = (c : Int) :: L := List.take_of_length_le (by simp)
                rw [hSf] at hIs hSl hsn ⊢
                have HIS := Lib.hid hIs
                have HSL := Lib.hid hSl
                have hbw5 := hbw4.trans (hbi.mono hbw4.size)
                clear hIs hSl hsn
                go_wp2_with fail
                refine (to_any B hB an at_ cn ct 0 d (atS c L L.length) _ wr (Nat.le_refl _) hH).mono ?_
                rintro e w6 ⟨rfl, hb6⟩
                have hst := HST.out
                generalize toS B 0 d (atS c L L.length) = nxt at hst ⊢
                have y6 := y5.up hb6
                have hbw6 := below_step hbw5 hb6
                by_cases hneg : nxt < 0
                · have t1 : decide (0 ≤ nxt) = false := by simp; omega
                  clear hst hSf
                  go_wp2
                  go_roundw
                  case rel => exact ⟨c + 1, by omega, by simp, y6, hbw6⟩
                  case measure => simp [intOf]; omega
                · have t1 : decide (0 ≤ nxt) = true := by simp; omega
                  have hm : nxt ∈ (c : Int) :: L := hst.resolve_left hneg
                  have hm' : decide (nxt ∈ (c : Int) :: L) = true := by simpa using hm
                  have hhas := has_any ((c : Int) :: L) nxt as_ caps _ w6 (by rw [HSL.out]; omega) (HIS.out.up (Nat.le_refl _) hb6)
                  rw [hm'] at hhas
                  have HHAS := Lib.hid hhas
                  clear hst hm hm' hhas hSf
                  go_wp2_with (go_at_call 30; go_loud (refine HHAS.out.mono ?_); rintro e w' ⟨rfl, rfl⟩)
                  go_roundw
                  case rel => exact ⟨c + 1, by omega, by simp, y6, hbw6⟩
                  case measure => simp [intOf]; omega
          · go_wp2
            go_roundw
            case rel => exact ⟨d + 1, by omega, by simp, y1, hbw⟩
            case measure => simp [intOf]; omega
      · go_wp2
        go_ret
        exact ⟨rfl, hbw⟩
  case true =>
    go_wp2_with fail
    generalize w2.alloc (.cells #[.int .i64 B.cells, .slice an B.next.length cn, .slice at_ B.turn.length ct] 31) = w3 at *
    generalize w2.heap.size = b1 at *
    clear c0 c1 c2
    go_loopw [8] (fun i wr => ∃ d : Nat, d ≤ B.next.length ∧ i = .int .i64 d ∧ InBox wr b1 an at_ cn ct B ∧ Below w.heap.size w wr)
      (fun i _ => B.next.length - (intOf i).toNat)
    case atStart => exact ⟨0, Nat.zero_le _, rfl, y1, hb2'⟩
    case round =>
      clear y1 hb2'
      obtain ⟨d, hd, rfl, y1, hbw⟩ := hrel
      obtain ⟨c0, c1, c2, hH⟩ := id y1
      by_cases hlt : d < B.next.length
      · go_wp2_with fail
        clear c0 c1 c2 hH
        go_loopw [9] (fun i wr => ∃ c : Nat, (c : Int) ≤ B.cells ∧ i = .int .i64 c ∧ InBox wr b1 an at_ cn ct B ∧ Below w.heap.size w wr)
          (fun i _ => B.cells.toNat - (intOf i).toNat)
        case atStart => exact ⟨0, by omega, rfl, y1, hbw⟩
        case round =>
          clear y1 hbw
          obtain ⟨c, hc, rfl, y1, hbw⟩ := hrel
          obtain ⟨c0, c1, c2, hH⟩ := id y1
          by_cases hcl : (c : Int) < B.cells
          · go_wp2_with fail
            refine (line_any B hB an at_ cn ct 1 d c _ wr (Nat.le_refl _) hH).mono ?_
            rintro e w4 ⟨v4, rfl, hown4, hb4⟩
            obtain ⟨hch, hstop⟩ := line_spec hB 1 d c ⟨by omega, hcl⟩
            generalize lineOf B 1 d c = L at hown4 hch hstop
            have hshort := hch.short ⟨by omega, hcl⟩
            obtain ⟨a4, cap4, rfl, hI4⟩ := OwnInts.ints hown4
            have y4 := y1.up hb4
            have hbw4 := below_step hbw hb4
            clear c0 c1 c2 hH hb4 hown4 y1 hbw
            obtain ⟨c0, c1, c2, hH⟩ := id y4
            have hge : decide (B.cells ≤ (L.length : Int)) = false := by simp; omega
            have HST := Lib.hid hstop
            have HCH := Lib.hid hch
            clear hstop hch
            go_wp2_with fail
            have hs5 : OwnInts w4.heap.size (w4.alloc (.cells #[.int .i64 (c : Int)] 3)) (.slice (some ⟨w4.heap.size, 0, none⟩) 1 1) (((c : Int) :: L).take (0 + 1)) := own_lit w4 c
            have hb5 : Below w4.heap.size w4 (w4.alloc (.cells #[.int .i64 (c : Int)] 3)) := (Below.refl _ _).alloc (Nat.le_refl _) _
            clear c0 c1 c2 hH
            go_loopw [11, 12, 13] (fun a sn i wi => ∃ k : Nat, k ≤ L.length ∧ i = .int .i64 k ∧ a = .int .i64 (atS c L k) ∧ OwnInts w4.heap.size wi sn (((c : Int) :: L).take (k + 1)) ∧ Below w4.heap.size w4 wi)
              (fun _ _ i _ => L.length - (intOf i).toNat)
            case atStart => exact ⟨0, Nat.zero_le _, rfl, rfl, hs5, hb5⟩
            case round =>
              clear hs5 hb5
              obtain ⟨k, hk, rfl, rfl, hsn, hbi⟩ := hrel
              have y5 := y4.up hbi
              obtain ⟨c0, c1, c2, hH⟩ := id y5
              obtain ⟨as_, caps, rfl, hIs⟩ := OwnInts.ints hsn
              have hSl : (((c : Int) :: L).take (k + 1)).length = k + 1 := by simp; omega
              by_cases hkl : k < L.length
              · have hstep := HCH.out.step k hkl
                have hfr := HCH.out.fresh hkl
                have hat1 : atS c L (k + 1) = L[k]?.getD 0 := by unfold atS; rw [List.getElem?_cons_succ]
                have htk := take_at c L k hk
                rw [if_pos hkl] at htk
                obtain ⟨b4, off4, ha4, hb4n, hc4⟩ := (hI4.up (Nat.le_refl _) hbi).at_ hkl
                subst ha4
                have hto : toS B 1 d (atS c L k) = L[k]?.getD 0 := hstep.symm
                generalize L[k]?.getD 0 = x at hc4 hto hfr hat1 htk
                generalize atS c L k = at0 at hto
                generalize ((c : Int) :: L).take (k + 1) = S at *
                have hkl2 : decide ((k : Int) < (L.length : Int)) = true := by simpa using hkl
                have hdf : decide (x ∈ S) = false := by simpa using hfr
                have HTO := Lib.hid hto
                have HDF := Lib.hid hdf
                have HTK := Lib.hid htk
                have HAT := Lib.hid hat1
                have HSL := Lib.hid hSl
                have HIS := Lib.hid hIs
                have HHH := Lib.hid hH
                have HSN := Lib.hid hsn
                clear hto hdf hfr htk hat1 hSl hstep hIs hH hsn
                go_wp2_with fail
                go_region_held3 (fun w' => w'.cell? ⟨b1, 0, none⟩ = some (.int .i64 B.cells) ∧ w'.cell? ⟨b1, 1, none⟩ = some (.slice an B.next.length cn) ∧ w'.cell? ⟨b1, 2, none⟩ = some (.slice at_ B.turn.length ct) ∧ w'.cell? ⟨b4, off4 + k, none⟩ = some (.int .i64 x) ∧ Below wr.heap.size wr w')
                  (first
                    | (go_keep; done)
                    | ((try go_split_ands)
                       refine ⟨?_, ?_, ?_, ?_, ?_⟩
                       · first | exact cell_keep (by assumption) (by assumption) | (go_keep; done)
                       · first | exact cell_keep (by assumption) (by assumption) | (go_keep; done)
                       · first | exact cell_keep (by assumption) (by assumption) | (go_keep; done)
                       · first | exact cell_keep (by assumption) (by assumption) | (go_keep; done)
                       · (repeat (first | exact Below.refl _ _ | assumption | refine below_alloc ?_ _ | refine Below.drew ?_ | refine below_drewN_ ?_ _ | refine below_step ?_ (by assumption)))))
                  (first | (go_at_call 13; refine (to_any B hB an at_ cn ct 1 d at0 _ _ (by have : Below wr.heap.size wr wr.drew := (Below.refl _ _).drew; exact this.size) (HHH.out.up (Nat.le_refl _) (by (repeat (first | exact Below.refl _ _ | assumption | refine below_alloc ?_ _ | refine Below.drew ?_ | refine below_drewN_ ?_ _ | refine below_step ?_ (by assumption)))))).mono ?_; rintro e w' ⟨rfl, hbb⟩; rw [HTO.out]) | (go_at_call 30; refine (has_any S x as_ caps _ _ (by rw [HSL.out]; omega) (HIS.out.up (Nat.le_refl _) (by (repeat (first | exact Below.refl _ _ | assumption | refine below_alloc ?_ _ | refine Below.drew ?_ | refine below_drewN_ ?_ _ | refine below_step ?_ (by assumption)))))).mono ?_; rintro e w' ⟨rfl, rfl⟩; rw [HDF.out]))
                rename_i hS
                clear c0 c1 c2
                obtain ⟨c0, c1, c2, hcx, hbX⟩ := hS
                have hsN : OwnInts w4.heap.size w' (.slice as_ S.length caps) S := HSN.out.alters (S := fun _ => False) (Alters.of_below hbX) (fun _ h => h.elim)
                have hbX4 : Below w4.heap.size w4 w' := hbi.trans (hbX.mono hbi.size)
                have hAB : Below w'.heap.size w' (w'.alloc (.cells #[.int .i64 x] 3)) := (Below.refl _ _).alloc (Nat.le_refl _) _
                have HNA := Lib.hid (hsN.alters (S := fun _ => False) (Alters.of_below hAB) (fun _ h => h.elim))
                have HN := Lib.hid hsN
                clear hsN
                go_wp2_with (at_builtin; go_loud (refine wpList_push rfl (.tmp 73) (.tmp 75) rfl w4.heap.size _ S rfl HNA.out (by rw [HSL.out]; omega) (Nat.le_trans hbX4.size hAB.size) ⟨w'.heap.size, 0, none⟩ x rfl (cell_new_at _ _ _ _ _ _ rfl rfl) ?_; intro g6 cap6 w6 hown6 hg6 hat6))
                have hb6 := push_below hbX4 hAB hbX4.size HN.out hg6
                clear hat6
                go_roundw
                case rel => exact ⟨k + 1, by omega, by simp, by rw [HAT.out], by rw [← HTK.out]; exact hown6, hb6⟩
                case measure => simp [intOf]; omega
              · obtain rfl : k = L.length := by omega
                have hkl2 : decide ((L.length : Int) < (L.length : Int)) = false := by simp
                have hSf : ((c : Int) :: L).take (L.length + 1) = (c : Int) :: L := List.take_of_length_le (by simp)
                rw [hSf] at hIs hSl hsn ⊢
                have HIS := Lib.hid hIs
                have HSL := Lib.hid hSl
                have hbw5 := hbw4.trans (hbi.mono hbw4.size)
                clear hIs hSl hsn
                go_wp2_with fail
                refine (to_any B hB an at_ cn ct 1 d (atS c L L.length) _ wr (Nat.le_refl _) hH).mono ?_
                rintro e w6 ⟨rfl, hb6⟩
                have hst := HST.out
                generalize toS B 1 d (atS c L L.length) = nxt at hst ⊢
                have y6 := y5.up hb6
                have hbw6 := below_step hbw5 hb6
                by_cases hneg : nxt < 0
                · have t1 : decide (0 ≤ nxt) = false := by simp; omega
                  clear hst hSf
                  go_wp2
                  go_roundw
                  case rel => exact ⟨c + 1, by omega, by simp, y6, hbw6⟩
                  case measure => simp [intOf]; omega
                · have t1 : decide (0 ≤ nxt) = true := by simp; omega
                  have hm : nxt ∈ (c : Int) :: L := hst.resolve_left hneg
                  have hm' : decide (nxt ∈ (c : Int) :: L) = true := by simpa using hm
                  have hhas := has_any ((c : Int) :: L) nxt as_ caps _ w6 (by rw [HSL.out]; omega) (HIS.out.up (Nat.le_refl _) hb6)
                  rw [hm'] at hhas
                  have HHAS := Lib.hid hhas
                  clear hst hm hm' hhas hSf
                  go_wp2_with (go_at_call 30; go_loud (refine HHAS.out.mono ?_); rintro e w' ⟨rfl, rfl⟩)
                  go_roundw
                  case rel => exact ⟨c + 1, by omega, by simp, y6, hbw6⟩
                  case measure => simp [intOf]; omega
          · go_wp2
            go_roundw
            case rel => exact ⟨d + 1, by omega, by simp, y1, hbw⟩
            case measure => simp [intOf]; omega
      · go_wp2
        go_ret
        exact ⟨rfl, hbw⟩
end Go.Proofs.YtccapadoeocebaaDoor
