/-
  BoardFar returns true.
-/
import Derived.Test.YtccapadoeocebaaDoorLawA
import Derived.Test.YtccapadoeocebaaDoorFarP
import Derived.BigQuiet
namespace Go.Proofs.YtccapadoeocebaaDoor
open Go Go.RowKit Go.Shelf

set_option maxRecDepth 100000 in
set_option maxHeartbeats 8000000 in
theorem farL_any (xs : Array Value) (x0 x1 x2 : Nat) (nx : Nat → Nat) (hx : RawIn xs x0 x1 x2 nx) (w : World) (hR : RaysIn w) :
    Calls Tryd.prog 7 #[.agg xs] w fun e w' => e = .returned (.bool true) ∧ Below w.heap.size w w' := by
  go_enter Tryd.func7, Tryd.ntmps7
  go_wp2_with fail
  refine (sanity_any _ (hR.up (below_alloc (Below.refl _ _) _))).mono ?_
  rintro e w1 ⟨rfl, hb1⟩
  have hx1 : w1.heap[w.heap.size]? = some (.cells xs 24 (0, 0)) := (hb1.block w.heap.size (by rw [World.size_alloc]; omega)).trans (World.alloc_heap_new _ _)
  have hb1' : Below w.heap.size w w1 := below_step (below_alloc (Below.refl _ _) _) hb1
  clear hb1
  go_wp2_with (with_reducible refine wpList_load_row rfl 24 (.tmp 1) rfl w.heap.size rfl 24 xs (0, 0) _ hx1 Tryd.underlying24 rfl (by rw [hx.size]; exact info_raw) ?_)
  refine (wild_in hx w1).mono ?_
  rintro e w2 ⟨an, cn, at_, ct, rfl, hH2, hb2⟩
  have hsm := wild_small hx
  generalize wildS (1 + x0 % 8) (1 + x1 % 4) x2 nx = B at hH2 hsm ⊢
  have y1 := InBox.new cn ct hH2
  have hb2' := below_alloc (below_step hb1' hb2) (.cells #[.int .i64 B.cells, .slice an B.next.length cn, .slice at_ B.turn.length ct] 31)
  obtain ⟨c0, c1, c2, hH⟩ := id y1
  have hB := hsm.ok
  have hlo := hB.lo
  have hc8 := hsm.cells
  obtain ⟨n, hn⟩ := Int.eq_ofNat_of_zero_le (show 0 ≤ B.cells by omega)
  have hn1 : 1 ≤ n := by omega
  have hn8 : n ≤ 8 := by omega
  have HN := Lib.hid hn
  clear hb2 hH2 hx1 hb1' hlo hc8
  have hle1 : B.cells ≤ n := by omega
  have hle2 : (n : Int) ≤ B.cells := by omega
  clear hn
  go_wp2_with fail
  refine (far_any B hsm.valid n HN.out an at_ cn ct _ _ (Nat.le_refl _) hH).mono ?_
  rintro e w4 ⟨G, vs, rfl, hrows, hb4, hG⟩
  have hF := hrows.rws
  have hfg : ∀ a, a < n → (farS B)[a]?.getD [] = distS (stepsS B) n a := fun a ha => farS_get HN.out ha
  have hlaw := fun a c (ha : a < n) (hc : c < n) (hac : a ≠ c) => far_law hB HN.out ha hc hac
  have h00 : ∀ a, a < n → (distS (stepsS B) n a)[a]?.getD 0 = 0 := fun a ha => (dist_spec ha (stepsS_lt hB HN.out)).2.2.2
  have hfl := farS_len HN.out
  have hdle : ∀ a, a < n → ∀ x, x < n → (distS (stepsS B) n a)[x]?.getD 0 ≤ n := fun a ha => dist_le ha (stepsS_lt hB HN.out)
  have HDLEA := Lib.hid hdle
  clear hdle
  have HFG := Lib.hid hfg
  have HLAW := Lib.hid hlaw
  have H00 := Lib.hid h00
  have HFL := Lib.hid hfl
  have y4 := y1.up hb4
  have hbw4 := below_step hb2' hb4
  clear hfg hlaw h00 hfl y1 hb2' hb4 c0 c1 c2 hH hrows hG
  have t0 : ((n : Int) != B.cells) = false := by simp; omega
  have t0' : ((n : Int) == B.cells) = true := by simp; omega
  have t0'' : decide ((n : Int) = B.cells) = true := by simp; omega
  generalize (some (⟨G, 0, none⟩ : Addr)) = ad at hF ⊢
  generalize w2.heap.size = b1 at *
  obtain ⟨c0, c1, c2, _⟩ := id y4
  go_wp2_with fail
  clear c0 c1 c2
  go_loopw [6] (fun i wr => ∃ a : Nat, a ≤ n ∧ i = .int .i64 a ∧ InBox wr b1 an at_ cn ct B ∧ Rws w4.heap.size wr ad (farS B) ∧ Below w.heap.size w wr ∧ w4.heap.size ≤ wr.heap.size)
    (fun i _ => n - (intOf i).toNat)
  case atStart => exact ⟨0, Nat.zero_le _, rfl, y4, hF, hbw4, Nat.le_refl _⟩
  case round =>
    clear y4 hF hbw4
    obtain ⟨a, ha, rfl, y1, hF, hbw, hsz⟩ := hrel
    obtain ⟨c0, c1, c2, hH⟩ := id y1
    by_cases hlt : a < n
    · have da : decide ((a : Int) < B.cells) = true := by simp; omega
      obtain ⟨b, off, aj, cj, hab, hbN, hcr, hI⟩ := hF.at_ (j := a) (by rw [HFL.out]; exact hlt)
      subst hab
      rw [HFG.out a hlt] at hcr hI
      have hdl : (distS (stepsS B) n a).length = n := dist_len _ _ _
      have hlw := fun c (hc : c < n) (hac : a ≠ c) => HLAW.out a c hlt hc hac
      have h0 := H00.out a hlt
      have hgd := HFG.out a hlt
      have hdle := HDLEA.out a hlt
      generalize distS (stepsS B) n a = D at hcr hI hdl hlw h0 hgd hdle
      rw [hdl] at hcr
      have HDL := Lib.hid hdl
      obtain ⟨b2, off2, haj, hb2, hca⟩ := hI.at_ (j := a) (by omega)
      subst haj
      rw [h0] at hca
      have HLW := Lib.hid hlw
      have HGD := Lib.hid hgd
      have HDLE := Lib.hid hdle
      clear hlw hgd h0 hdl hdle
      go_wp2_with fail
      go_quiet (fail)
      generalize hwq : wr.drewN _ = wq
      have hBq : Below wr.heap.size wr wq := by rw [← hwq]; exact below_drewN_ (Below.refl _ _) _
      have y2 := y1.up hBq
      have hF2 := hF.up hsz hBq
      have hbw2 := below_step hbw hBq
      have hsz2 := Nat.le_trans hsz hBq.size
      clear hwq c0 c1 c2 hH hcr hca hI hF y1 hbw hsz hBq
      go_wp2_with fail
      go_loopw [7] (fun i wr => ∃ c : Nat, c ≤ n ∧ i = .int .i64 c ∧ InBox wr b1 an at_ cn ct B ∧ Rws w4.heap.size wr (some ⟨b, off, none⟩) (farS B) ∧ Below w.heap.size w wr ∧ w4.heap.size ≤ wr.heap.size)
        (fun i _ => n - (intOf i).toNat)
      case atStart => exact ⟨0, Nat.zero_le _, rfl, y2, hF2, hbw2, hsz2⟩
      case round =>
        clear y2 hF2 hbw2 hsz2
        obtain ⟨c, hc, rfl, y1, hF, hbw, hsz⟩ := hrel
        obtain ⟨c0, c1, c2, hH⟩ := id y1
        by_cases hcn : c < n
        · have dc : decide ((c : Int) < B.cells) = true := by simp; omega
          go_wp2_with fail
          clear c0 c1 c2 hH
          go_loopw [8, 9] (fun bs i wr => ∃ k : Nat, k ≤ n ∧ i = .int .i64 k ∧ bs = .int .i64 (bestTo B D c k) ∧ InBox wr b1 an at_ cn ct B ∧ Rws w4.heap.size wr (some ⟨b, off, none⟩) (farS B) ∧ Below w.heap.size w wr ∧ w4.heap.size ≤ wr.heap.size)
            (fun _ i _ => n - (intOf i).toNat)
          case atStart => exact ⟨0, Nat.zero_le _, rfl, rfl, y1, hF, hbw, hsz⟩
          case round =>
            clear y1 hF hbw hsz
            obtain ⟨k, hk, rfl, rfl, y1, hF, hbw, hsz⟩ := hrel
            obtain ⟨c0, c1, c2, hH⟩ := id y1
            obtain ⟨b', off', aj', cj', hab, _, hcr, hI⟩ := hF.at_ (j := a) (by rw [HFL.out]; exact hlt)
            cases hab
            rw [HGD.out] at hcr hI
            rw [HDL.out] at hcr
            by_cases hkn : k < n
            · obtain ⟨b3, off3, haj, hb3, hck⟩ := hI.at_ (j := k) (by rw [HDL.out]; exact hkn)
              subst haj
              have hbt : bestTo B D c (k + 1) = if 0 ≤ D[k]?.getD 0 ∧ (c : Int) ∈ nearS B k ∧ (bestTo B D c k < 0 ∨ D[k]?.getD 0 < bestTo B D c k) then D[k]?.getD 0 else bestTo B D c k := rfl
              generalize D[k]?.getD 0 = x at hck hbt
              generalize bestTo B D c k = bt at hbt ⊢
              by_cases hx0 : 0 ≤ x
              · have hnl := near_len hB (k : Int)
                by_cases hm : (c : Int) ∈ nearS B k
                · have hmd : decide ((c : Int) ∈ nearS B k) = true := by simpa using hm
                  by_cases hb0 : bt < 0
                  · have HBT := Lib.hid (by rw [hbt, if_pos ⟨hx0, hm, .inl hb0⟩] : bestTo B D c (k + 1) = x)
                    clear hbt hm
                    have HMD := Lib.hid hmd
                    have HNL := Lib.hid hnl
                    have HI := Lib.hid hI
                    clear hmd hnl hI
                    go_wp2_with fail
                    refine (callsIn_wide.1 (near_in B hB an at_ cn ct k _ _ (Nat.le_refl _) hH)).mono ?_
                    rintro e w6 ⟨v6, rfl, hown6, hb6⟩
                    obtain ⟨a6, cap6, rfl, hI6⟩ := OwnInts.ints hown6
                    have hhas := has_any (nearS B k) c a6 cap6 _ w6 (by have := HNL.out; omega) hI6
                    rw [HMD.out] at hhas
                    have HHAS := Lib.hid hhas
                    have y6 := y1.up hb6
                    have hF6 := hF.up hsz hb6
                    have hbw6 := below_step hbw hb6
                    have hsz6 := Nat.le_trans hsz hb6.size
                    have d0 := cell_keep hb6 hcr
                    have d1 := cell_keep hb6 hck
                    clear c0 c1 c2 hH hcr hck hhas hown6 hI6 hb6
                    obtain ⟨c0, c1, c2, hH⟩ := id y6
                    go_wp2_with (go_at_call 30; refine HHAS.out.mono ?_; rintro e w' ⟨rfl, rfl⟩)
                    go_roundw
                    case rel => exact ⟨k + 1, by omega, by simp, by rw [HBT.out], y6, hF6, hbw6, hsz6⟩
                    case measure => simp [intOf]; omega
                  · have hb0' : decide (bt < 0) = false := by simpa using hb0
                    by_cases hxb : x < bt
                    · have HBT := Lib.hid (by rw [hbt, if_pos ⟨hx0, hm, .inr hxb⟩] : bestTo B D c (k + 1) = x)
                      clear hbt hm
                      have HMD := Lib.hid hmd
                      have HNL := Lib.hid hnl
                      have HI := Lib.hid hI
                      clear hmd hnl hI
                      go_wp2_with fail
                      refine (callsIn_wide.1 (near_in B hB an at_ cn ct k _ _ (Nat.le_refl _) hH)).mono ?_
                      rintro e w6 ⟨v6, rfl, hown6, hb6⟩
                      obtain ⟨a6, cap6, rfl, hI6⟩ := OwnInts.ints hown6
                      have hhas := has_any (nearS B k) c a6 cap6 _ w6 (by have := HNL.out; omega) hI6
                      rw [HMD.out] at hhas
                      have HHAS := Lib.hid hhas
                      have y6 := y1.up hb6
                      have hF6 := hF.up hsz hb6
                      have hbw6 := below_step hbw hb6
                      have hsz6 := Nat.le_trans hsz hb6.size
                      have d0 := cell_keep hb6 hcr
                      have d1 := cell_keep hb6 hck
                      clear c0 c1 c2 hH hcr hck hhas hown6 hI6 hb6
                      obtain ⟨c0, c1, c2, hH⟩ := id y6
                      go_wp2_with (go_at_call 30; refine HHAS.out.mono ?_; rintro e w' ⟨rfl, rfl⟩)
                      go_roundw
                      case rel => exact ⟨k + 1, by omega, by simp, by rw [HBT.out], y6, hF6, hbw6, hsz6⟩
                      case measure => simp [intOf]; omega
                    · have hxb' : decide (x < bt) = false := by simpa using hxb
                      have HBT := Lib.hid (by rw [hbt, if_neg (fun h => by rcases h.2.2 with h | h; exact hb0 h; exact hxb h)] : bestTo B D c (k + 1) = bt)
                      clear hbt hm
                      have HMD := Lib.hid hmd
                      have HNL := Lib.hid hnl
                      have HI := Lib.hid hI
                      clear hmd hnl hI
                      go_wp2_with fail
                      refine (callsIn_wide.1 (near_in B hB an at_ cn ct k _ _ (Nat.le_refl _) hH)).mono ?_
                      rintro e w6 ⟨v6, rfl, hown6, hb6⟩
                      obtain ⟨a6, cap6, rfl, hI6⟩ := OwnInts.ints hown6
                      have hhas := has_any (nearS B k) c a6 cap6 _ w6 (by have := HNL.out; omega) hI6
                      rw [HMD.out] at hhas
                      have HHAS := Lib.hid hhas
                      have y6 := y1.up hb6
                      have hF6 := hF.up hsz hb6
                      have hbw6 := below_step hbw hb6
                      have hsz6 := Nat.le_trans hsz hb6.size
                      have d0 := cell_keep hb6 hcr
                      have d1 := cell_keep hb6 hck
                      clear c0 c1 c2 hH hcr hck hhas hown6 hI6 hb6
                      obtain ⟨c0, c1, c2, hH⟩ := id y6
                      go_wp2_with (go_at_call 30; refine HHAS.out.mono ?_; rintro e w' ⟨rfl, rfl⟩)
                      go_roundw
                      case rel => exact ⟨k + 1, by omega, by simp, by rw [HBT.out], y6, hF6, hbw6, hsz6⟩
                      case measure => simp [intOf]; omega
                · have hmd : decide ((c : Int) ∈ nearS B k) = false := by simpa using hm
                  have HBT := Lib.hid (by rw [hbt, if_neg (fun h => hm h.2.1)] : bestTo B D c (k + 1) = bt)
                  clear hbt hm
                  have HMD := Lib.hid hmd
                  have HNL := Lib.hid hnl
                  have HI := Lib.hid hI
                  clear hmd hnl hI
                  go_wp2_with fail
                  refine (callsIn_wide.1 (near_in B hB an at_ cn ct k _ _ (Nat.le_refl _) hH)).mono ?_
                  rintro e w6 ⟨v6, rfl, hown6, hb6⟩
                  obtain ⟨a6, cap6, rfl, hI6⟩ := OwnInts.ints hown6
                  have hhas := has_any (nearS B k) c a6 cap6 _ w6 (by have := HNL.out; omega) hI6
                  rw [HMD.out] at hhas
                  have HHAS := Lib.hid hhas
                  have y6 := y1.up hb6
                  have hF6 := hF.up hsz hb6
                  have hbw6 := below_step hbw hb6
                  have hsz6 := Nat.le_trans hsz hb6.size
                  have d0 := cell_keep hb6 hcr
                  have d1 := cell_keep hb6 hck
                  clear c0 c1 c2 hH hcr hck hhas hown6 hI6 hb6
                  obtain ⟨c0, c1, c2, hH⟩ := id y6
                  go_wp2_with (go_at_call 30; refine HHAS.out.mono ?_; rintro e w' ⟨rfl, rfl⟩)
                  go_roundw
                  case rel => exact ⟨k + 1, by omega, by simp, by rw [HBT.out], y6, hF6, hbw6, hsz6⟩
                  case measure => simp [intOf]; omega
              · have hx0' : decide (0 ≤ x) = false := by simpa using hx0
                have HBT := Lib.hid (by rw [hbt, if_neg (fun h => hx0 h.1)] : bestTo B D c (k + 1) = bt)
                clear hbt
                go_wp2
                go_roundw
                case rel => exact ⟨k + 1, by omega, by simp, by rw [HBT.out], y1, hF, hbw, hsz⟩
                case measure => simp [intOf]; omega
            · have HK := Lib.hid (show k = n by omega)
              have hok := best_ok B D c k
              have hlw := fun hac => HLW.out c hcn hac
              rw [← HK.out] at hlw
              have hbn : bestTo B D c k ≤ 64 := by
                rcases hok with ⟨e, _⟩ | ⟨_, ⟨j0, hj0, _, e⟩, _⟩
                · omega
                · have := HDLE.out j0 (by have := HK.out; omega); omega
              have hb1 : bestTo B D c k < 0 → bestTo B D c k = -1 := fun h => by
                rcases hok with ⟨e, _⟩ | ⟨e, _⟩
                · exact e
                · omega
              have HHH := Lib.hid hH
              obtain ⟨b3, off3, haj, hb3, hce⟩ := hI.at_ (j := c) (by rw [HDL.out]; exact hcn)
              cases haj
              rw [HK.out] at hlw
              generalize D[c]?.getD 0 = e at hce hlw
              rw [← HK.out] at hlw
              generalize bestTo B D c k = bt at hlw hbn hb1 ⊢
              have wbt : -1 ≤ bt → IntKind.i64.wrap (bt + 1) = bt + 1 := fun h => IntWalk.i64_in _ (by omega)
              clear hok hI hH
              by_cases hac : a = c
              · subst hac
                clear hlw
                by_cases hb0 : bt < 0
                · have hbt := hb1 hb0
                  subst hbt
                  clear hb1 wbt hb0 hbn
                  go_wp2_with fail
                  go_quiet (fail)
                  go_wp2
                  go_roundw
                  case rel => exact ⟨a + 1, by omega, by simp, y1.up (below_drewN_ (Below.refl _ _) _), hF.up hsz (below_drewN_ (Below.refl _ _) _), below_drewN_ hbw _, hsz⟩
                  case measure => simp [intOf]; omega
                · have hb0' : decide (bt < 0) = false := by simpa using hb0
                  have hb0'' : decide (0 ≤ bt) = true := by simp; omega
                  have hw := wbt (by omega)
                  clear hb1 wbt hb0
                  go_wp2_with fail
                  go_quiet (fail)
                  go_wp2
                  go_roundw
                  case rel => exact ⟨a + 1, by omega, by simp, y1.up (below_drewN_ (Below.refl _ _) _), hF.up hsz (below_drewN_ (Below.refl _ _) _), below_drewN_ hbw _, hsz⟩
                  case measure => simp [intOf]; omega
              · have n1 : ((a : Int) == (c : Int)) = false := by simp; omega
                have n2 : ((a : Int) != (c : Int)) = true := by simp; omega
                have n3 : decide ((a : Int) = (c : Int)) = false := by simp; omega
                have n4 : (a == c) = false := by simp; omega
                have n5 : decide (a = c) = false := by simpa using hac
                obtain ⟨l1, l2, l3⟩ := hlw hac
                by_cases hb0 : bt < 0
                · have hbt := hb1 hb0
                  have he := l2 hb0
                  subst hbt
                  subst he
                  have hmd : decide ((c : Int) ∈ nearS B a) = false := by
                    rw [decide_eq_false_iff_not, ← l3]; omega
                  have t1 : ((-1 : Int) == 1) = false := by decide
                  clear hb1 wbt hb0 hbn l1 l2 l3 hlw hac
                  go_wp2_with fail
                  have hnr := callsIn_wide.1 (near_in B hB an at_ cn ct a _ wr.drew (Nat.le_refl _) (HHH.out.up (Nat.le_refl _) (Below.refl _ wr).drew))
                  have HNR := Lib.hid hnr
                  have HMD := Lib.hid hmd
                  clear hnr hmd
                  refine wp_region_held_drew (S := fun w' => w'.cell? ⟨b1, 0, none⟩ = some (.int .i64 B.cells) ∧ w'.cell? ⟨b1, 1, none⟩ = some (.slice an B.next.length cn) ∧ w'.cell? ⟨b1, 2, none⟩ = some (.slice at_ B.turn.length ct) ∧ w'.cell? ⟨b, off + a, none⟩ = some (.slice (some ⟨b3, off3, none⟩) n cj') ∧ w'.cell? ⟨b3, off3 + c, none⟩ = some (.int .i64 (-1))) (by kernel_rfl) ⟨c0, c1, c2, hcr, hce⟩ (fun hHeld => ?_)
                  refine wpAnyH_take (i := 0) (oi := { dst := some 122, op := Op.move (Operand.tmp 6), type := 3, pos := "law.go:147", after := #[], guard := none }) (v := ?_) rfl (by kernel_rfl) (by kernel_rfl) (by kernel_rfl) (fun _ _ _ h => h) (Or.inl ⟨by rfl, ?_⟩) (by assumption) ?_
                  rotate_left
                  · ((intro w hSw; (try dsimp only at hSw); go_simp); try with_reducible rfl)
                  (try simp only [Act.put, List.setIfInBounds_toArray, List.set_cons_zero, List.set_cons_succ])
                  refine wpAnyH_take (i := 1) (oi := { dst := some 123, op := Op.move (Operand.tmp 7), type := 3, pos := "law.go:147", after := #[], guard := none }) (v := ?_) rfl (by kernel_rfl) (by kernel_rfl) (by kernel_rfl) (fun _ _ _ h => h) (Or.inl ⟨by rfl, ?_⟩) (by assumption) ?_
                  rotate_left
                  · ((intro w hSw; (try dsimp only at hSw); go_simp); try with_reducible rfl)
                  (try simp only [Act.put, List.setIfInBounds_toArray, List.set_cons_zero, List.set_cons_succ])
                  refine wpAnyH_take (i := 2) (oi := { dst := some 124, op := Op.binOp BinOp.neq 3 (Operand.tmp 122) (Operand.tmp 123) 3, type := 4, pos := "law.go:147", after := #[{ on := 0, ground := Ground.data }, { on := 1, ground := Ground.data }], guard := none }) (v := ?_) rfl (by kernel_rfl) (by kernel_rfl) (by kernel_rfl) (fun _ _ _ h => h) (Or.inl ⟨by rfl, ?_⟩) (by assumption) ?_
                  rotate_left
                  · ((intro w hSw; (try dsimp only at hSw); go_simp); try with_reducible rfl)
                  (try simp only [Act.put, List.setIfInBounds_toArray, List.set_cons_zero, List.set_cons_succ])
                  refine wpAnyH_take (i := 3) (oi := { dst := some 125, op := Op.move (Operand.tmp 124), type := 4, pos := "law.go:147", after := #[{ on := 2, ground := Ground.data }], guard := none }) (v := ?_) rfl (by kernel_rfl) (by kernel_rfl) (by kernel_rfl) (fun _ _ _ h => h) (Or.inl ⟨by rfl, ?_⟩) (by assumption) ?_
                  rotate_left
                  · ((intro w hSw; (try dsimp only at hSw); go_simp); try with_reducible rfl)
                  (try simp only [Act.put, List.setIfInBounds_toArray, List.set_cons_zero, List.set_cons_succ])
                  refine wpAnyH_take (i := 4) (oi := { dst := some 126, op := Op.move (Operand.tmp 5), type := 28, pos := "law.go:147", after := #[{ on := 3, ground := Ground.guard }], guard := some (3, true) }) (v := ?_) rfl (by kernel_rfl) (by kernel_rfl) (by kernel_rfl) (fun _ _ _ h => h) (Or.inl ⟨by rfl, ?_⟩) (by assumption) ?_
                  rotate_left
                  · ((intro w hSw; (try dsimp only at hSw); go_simp); try with_reducible rfl)
                  (try simp only [Act.put, List.setIfInBounds_toArray, List.set_cons_zero, List.set_cons_succ])
                  refine wpAnyH_take (i := 5) (oi := { dst := some 127, op := Op.move (Operand.tmp 6), type := 3, pos := "law.go:147", after := #[{ on := 3, ground := Ground.guard }], guard := some (3, true) }) (v := ?_) rfl (by kernel_rfl) (by kernel_rfl) (by kernel_rfl) (fun _ _ _ h => h) (Or.inl ⟨by rfl, ?_⟩) (by assumption) ?_
                  rotate_left
                  · ((intro w hSw; (try dsimp only at hSw); go_simp); try with_reducible rfl)
                  (try simp only [Act.put, List.setIfInBounds_toArray, List.set_cons_zero, List.set_cons_succ])
                  refine wpAnyH_take (i := 6) (oi := { dst := some 128, op := Op.indexAddr 28 (Operand.tmp 126) (Operand.tmp 127), type := 0, pos := "law.go:147", after := #[{ on := 4, ground := Ground.data }, { on := 5, ground := Ground.data }, { on := 3, ground := Ground.guard }], guard := some (3, true) }) (v := ?_) rfl (by kernel_rfl) (by kernel_rfl) (by kernel_rfl) (fun _ _ _ h => h) (Or.inl ⟨by rfl, ?_⟩) (by assumption) ?_
                  rotate_left
                  · ((intro w hSw; (try dsimp only at hSw); go_simp); try with_reducible rfl)
                  (try simp only [Act.put, List.setIfInBounds_toArray, List.set_cons_zero, List.set_cons_succ])
                  refine wpAnyH_take (i := 7) (oi := { dst := some 129, op := Op.load 29 (Operand.tmp 128), type := 29, pos := "law.go:147", after := #[{ on := 6, ground := Ground.data }, { on := 3, ground := Ground.guard }], guard := some (3, true) }) (v := ?_) rfl (by kernel_rfl) (by kernel_rfl) (by kernel_rfl) (fun _ _ _ h => h) (Or.inl ⟨by rfl, ?_⟩) (by assumption) ?_
                  rotate_left
                  · ((intro w hSw; (try dsimp only at hSw); go_simp); try with_reducible rfl)
                  (try simp only [Act.put, List.setIfInBounds_toArray, List.set_cons_zero, List.set_cons_succ])
                  refine wpAnyH_take (i := 8) (oi := { dst := some 130, op := Op.move (Operand.tmp 7), type := 3, pos := "law.go:147", after := #[{ on := 3, ground := Ground.guard }], guard := some (3, true) }) (v := ?_) rfl (by kernel_rfl) (by kernel_rfl) (by kernel_rfl) (fun _ _ _ h => h) (Or.inl ⟨by rfl, ?_⟩) (by assumption) ?_
                  rotate_left
                  · ((intro w hSw; (try dsimp only at hSw); go_simp); try with_reducible rfl)
                  (try simp only [Act.put, List.setIfInBounds_toArray, List.set_cons_zero, List.set_cons_succ])
                  refine wpAnyH_take (i := 9) (oi := { dst := some 131, op := Op.indexAddr 29 (Operand.tmp 129) (Operand.tmp 130), type := 0, pos := "law.go:147", after := #[{ on := 7, ground := Ground.data }, { on := 8, ground := Ground.data }, { on := 3, ground := Ground.guard }], guard := some (3, true) }) (v := ?_) rfl (by kernel_rfl) (by kernel_rfl) (by kernel_rfl) (fun _ _ _ h => h) (Or.inl ⟨by rfl, ?_⟩) (by assumption) ?_
                  rotate_left
                  · ((intro w hSw; (try dsimp only at hSw); go_simp); try with_reducible rfl)
                  (try simp only [Act.put, List.setIfInBounds_toArray, List.set_cons_zero, List.set_cons_succ])
                  refine wpAnyH_take (i := 10) (oi := { dst := some 132, op := Op.load 3 (Operand.tmp 131), type := 3, pos := "law.go:147", after := #[{ on := 9, ground := Ground.data }, { on := 3, ground := Ground.guard }], guard := some (3, true) }) (v := ?_) rfl (by kernel_rfl) (by kernel_rfl) (by kernel_rfl) (fun _ _ _ h => h) (Or.inl ⟨by rfl, ?_⟩) (by assumption) ?_
                  rotate_left
                  · ((intro w hSw; (try dsimp only at hSw); go_simp); try with_reducible rfl)
                  (try simp only [Act.put, List.setIfInBounds_toArray, List.set_cons_zero, List.set_cons_succ])
                  refine wpAnyH_take (i := 11) (oi := { dst := some 133, op := Op.binOp BinOp.eql 3 (Operand.tmp 132) (Operand.const (Value.int IntKind.i64 1)) 3, type := 4, pos := "law.go:147", after := #[{ on := 10, ground := Ground.data }, { on := 3, ground := Ground.guard }], guard := some (3, true) }) (v := ?_) rfl (by kernel_rfl) (by kernel_rfl) (by kernel_rfl) (fun _ _ _ h => h) (Or.inl ⟨by rfl, ?_⟩) (by assumption) ?_
                  rotate_left
                  · ((intro w hSw; (try dsimp only at hSw); go_simp); try with_reducible rfl)
                  (try simp only [Act.put, List.setIfInBounds_toArray, List.set_cons_zero, List.set_cons_succ])
                  refine wpAnyH_take (i := 12) (oi := { dst := some 134, op := Op.load 31 (Operand.tmp 4), type := 31, pos := "law.go:147", after := #[{ on := 3, ground := Ground.guard }], guard := some (3, true) }) (v := ?_) rfl (by kernel_rfl) (by kernel_rfl) (by kernel_rfl) (fun _ _ _ h => h) (Or.inl ⟨by rfl, ?_⟩) (by assumption) ?_
                  rotate_left
                  · ((intro w hSw; (try dsimp only at hSw); go_simp); try with_reducible rfl)
                  (try simp only [Act.put, List.setIfInBounds_toArray, List.set_cons_zero, List.set_cons_succ])
                  refine wpAnyH_take (i := 13) (oi := { dst := some 135, op := Op.move (Operand.tmp 6), type := 3, pos := "law.go:147", after := #[{ on := 3, ground := Ground.guard }], guard := some (3, true) }) (v := ?_) rfl (by kernel_rfl) (by kernel_rfl) (by kernel_rfl) (fun _ _ _ h => h) (Or.inl ⟨by rfl, ?_⟩) (by assumption) ?_
                  rotate_left
                  · ((intro w hSw; (try dsimp only at hSw); go_simp); try with_reducible rfl)
                  (try simp only [Act.put, List.setIfInBounds_toArray, List.set_cons_zero, List.set_cons_succ])
                  refine wpAnyH_take (i := 15) (oi := { dst := some 137, op := Op.move (Operand.tmp 7), type := 3, pos := "law.go:147", after := #[{ on := 3, ground := Ground.guard }], guard := some (3, true) }) (v := ?_) rfl (by kernel_rfl) (by kernel_rfl) (by kernel_rfl) (fun _ _ _ h => h) (Or.inl ⟨by rfl, ?_⟩) (by assumption) ?_
                  rotate_left
                  · ((intro w hSw; (try dsimp only at hSw); go_simp); try with_reducible rfl)
                  (try simp only [Act.put, List.setIfInBounds_toArray, List.set_cons_zero, List.set_cons_succ])
                  refine wpAnyH_ready (rs := [14]) (by kernel_rfl) (by simp) ?_
                  refine AllReadyH.cons (o := { dst := some 136, op := Op.call { callee := Callee.value (Operand.func 18), args := #[Operand.tmp 134, Operand.tmp 135], argTypes := #[31, 3] }, type := 29, pos := "law.go:147", after := #[{ on := 12, ground := Ground.data }, { on := 13, ground := Ground.data }, { on := 3, ground := Ground.chain }, { on := 3, ground := Ground.guard }], guard := some (3, true) }) rfl (fun K hK => ?_) AllReadyH.nil
                  refine step_call_g rfl 18 _ _ #[.agg #[.int .i64 B.cells, .slice an B.next.length cn, .slice at_ B.turn.length ct], .int .i64 a] rfl rfl (enters_of Tryd.func18 (by kernel_rfl) rfl) (HNR.out.mono ?_)
                  rintro e6 w6 ⟨v6, rfl, hown6, hb6⟩
                  obtain ⟨a6, cap6, rfl, hI6⟩ := OwnInts.ints hown6
                  have hhas := has_any (nearS B a) c a6 cap6 _ w6 (by have := near_len hB (a : Int); omega) hI6
                  rw [HMD.out] at hhas
                  have HHAS := Lib.hid hhas
                  have hbX : Below wr.heap.size wr w6 := below_step ((Below.refl _ wr).drew) hb6
                  refine ⟨_, rfl, hK.out _ _ ⟨cell_keep hbX c0, cell_keep hbX c1, cell_keep hbX c2, cell_keep hbX hcr, cell_keep hbX hce⟩ (fun hS6 => ?_)⟩
                  clear hK K hhas hown6 hI6 hb6
                  (try simp only [Act.put, List.setIfInBounds_toArray, List.set_cons_zero, List.set_cons_succ])
                  refine wpAnyH_ready (rs := [16]) (by kernel_rfl) (by simp) ?_
                  refine AllReadyH.cons (o := { dst := some 138, op := Op.call { callee := Callee.value (Operand.func 30), args := #[Operand.tmp 136, Operand.tmp 137], argTypes := #[29, 3] }, type := 4, pos := "law.go:147", after := #[{ on := 14, ground := Ground.data }, { on := 15, ground := Ground.data }, { on := 14, ground := Ground.chain }, { on := 3, ground := Ground.guard }], guard := some (3, true) }) rfl (fun K hK => ?_) AllReadyH.nil
                  refine step_call_g rfl 30 _ _ #[.slice a6 (nearS B a).length cap6, .int .i64 c] rfl rfl (enters_of Tryd.func30 (by kernel_rfl) rfl) (HHAS.out.mono ?_)
                  rintro e7 w7 ⟨rfl, rfl⟩
                  refine ⟨_, rfl, hK.out _ _ hS6 (fun _ => ?_)⟩
                  clear hK K
                  (try simp only [Act.put, List.setIfInBounds_toArray, List.set_cons_zero, List.set_cons_succ])
                  refine wpAnyH_take (i := 17) (oi := { dst := some 139, op := Op.binOp BinOp.neq 4 (Operand.tmp 133) (Operand.tmp 138) 4, type := 4, pos := "law.go:147", after := #[{ on := 11, ground := Ground.data }, { on := 16, ground := Ground.data }, { on := 3, ground := Ground.guard }], guard := some (3, true) }) (v := ?_) rfl (by kernel_rfl) (by kernel_rfl) (by kernel_rfl) (fun _ _ _ h => h) (Or.inl ⟨by rfl, ?_⟩) (by assumption) ?_
                  rotate_left
                  · ((intro w hSw; (try dsimp only at hSw); go_simp); try with_reducible rfl)
                  (try simp only [Act.put, List.setIfInBounds_toArray, List.set_cons_zero, List.set_cons_succ])
                  refine wpAnyH_take (i := 18) (oi := { dst := some 140, op := Op.pick (Operand.tmp 125) (Operand.tmp 139) (Operand.const (Value.bool false)), type := 4, pos := "law.go:147", after := #[{ on := 3, ground := Ground.data }, { on := 17, ground := Ground.data }], guard := none }) (v := ?_) rfl (by kernel_rfl) (by kernel_rfl) (by kernel_rfl) (fun _ _ _ h => h) (Or.inl ⟨by rfl, ?_⟩) (by assumption) ?_
                  rotate_left
                  · ((intro w hSw; (try dsimp only at hSw); go_simp); try with_reducible rfl)
                  (try simp only [Act.put, List.setIfInBounds_toArray, List.set_cons_zero, List.set_cons_succ])
                  refine wpAnyH_take (i := 19) (oi := { dst := some 141, op := Op.move (Operand.tmp 140), type := 4, pos := "law.go:147", after := #[{ on := 18, ground := Ground.data }, { on := 16, ground := Ground.chain }], guard := none }) (v := ?_) rfl (by kernel_rfl) (by kernel_rfl) (by kernel_rfl) (fun _ _ _ h => h) (Or.inl ⟨by rfl, ?_⟩) (by assumption) ?_
                  rotate_left
                  · ((intro w hSw; (try dsimp only at hSw); go_simp); try with_reducible rfl)
                  (try simp only [Act.put, List.setIfInBounds_toArray, List.set_cons_zero, List.set_cons_succ])
                  refine wpAnyH_take (i := 20) (oi := { dst := some 142, op := Op.move (Operand.tmp 8), type := 3, pos := "law.go:147", after := #[{ on := 19, ground := Ground.guard }], guard := some (19, false) }) (v := ?_) rfl (by kernel_rfl) (by kernel_rfl) (by kernel_rfl) (fun _ _ _ h => h) (Or.inl ⟨by rfl, ?_⟩) (by assumption) ?_
                  rotate_left
                  · ((intro w hSw; (try dsimp only at hSw); go_simp); try with_reducible rfl)
                  (try simp only [Act.put, List.setIfInBounds_toArray, List.set_cons_zero, List.set_cons_succ])
                  refine wpAnyH_take (i := 21) (oi := { dst := some 143, op := Op.binOp BinOp.lss 3 (Operand.tmp 142) (Operand.const (Value.int IntKind.i64 0)) 3, type := 4, pos := "law.go:147", after := #[{ on := 20, ground := Ground.data }, { on := 19, ground := Ground.guard }], guard := some (19, false) }) (v := ?_) rfl (by kernel_rfl) (by kernel_rfl) (by kernel_rfl) (fun _ _ _ h => h) (Or.inl ⟨by rfl, ?_⟩) (by assumption) ?_
                  rotate_left
                  · ((intro w hSw; (try dsimp only at hSw); go_simp); try with_reducible rfl)
                  (try simp only [Act.put, List.setIfInBounds_toArray, List.set_cons_zero, List.set_cons_succ])
                  refine wpAnyH_take (i := 22) (oi := { dst := some 144, op := Op.move (Operand.tmp 143), type := 4, pos := "law.go:147", after := #[{ on := 21, ground := Ground.data }, { on := 19, ground := Ground.chain }, { on := 19, ground := Ground.guard }], guard := some (19, false) }) (v := ?_) rfl (by kernel_rfl) (by kernel_rfl) (by kernel_rfl) (fun _ _ _ h => h) (Or.inl ⟨by rfl, ?_⟩) (by assumption) ?_
                  rotate_left
                  · ((intro w hSw; (try dsimp only at hSw); go_simp); try with_reducible rfl)
                  (try simp only [Act.put, List.setIfInBounds_toArray, List.set_cons_zero, List.set_cons_succ])
                  refine wpAnyH_take (i := 23) (oi := { dst := some 145, op := Op.move (Operand.tmp 6), type := 3, pos := "law.go:147", after := #[{ on := 22, ground := Ground.guard }], guard := some (22, true) }) (v := ?_) rfl (by kernel_rfl) (by kernel_rfl) (by kernel_rfl) (fun _ _ _ h => h) (Or.inl ⟨by rfl, ?_⟩) (by assumption) ?_
                  rotate_left
                  · ((intro w hSw; (try dsimp only at hSw); go_simp); try with_reducible rfl)
                  (try simp only [Act.put, List.setIfInBounds_toArray, List.set_cons_zero, List.set_cons_succ])
                  refine wpAnyH_take (i := 24) (oi := { dst := some 146, op := Op.move (Operand.tmp 7), type := 3, pos := "law.go:147", after := #[{ on := 22, ground := Ground.guard }], guard := some (22, true) }) (v := ?_) rfl (by kernel_rfl) (by kernel_rfl) (by kernel_rfl) (fun _ _ _ h => h) (Or.inl ⟨by rfl, ?_⟩) (by assumption) ?_
                  rotate_left
                  · ((intro w hSw; (try dsimp only at hSw); go_simp); try with_reducible rfl)
                  (try simp only [Act.put, List.setIfInBounds_toArray, List.set_cons_zero, List.set_cons_succ])
                  refine wpAnyH_take (i := 25) (oi := { dst := some 147, op := Op.binOp BinOp.neq 3 (Operand.tmp 145) (Operand.tmp 146) 3, type := 4, pos := "law.go:147", after := #[{ on := 23, ground := Ground.data }, { on := 24, ground := Ground.data }, { on := 22, ground := Ground.guard }], guard := some (22, true) }) (v := ?_) rfl (by kernel_rfl) (by kernel_rfl) (by kernel_rfl) (fun _ _ _ h => h) (Or.inl ⟨by rfl, ?_⟩) (by assumption) ?_
                  rotate_left
                  · ((intro w hSw; (try dsimp only at hSw); go_simp); try with_reducible rfl)
                  (try simp only [Act.put, List.setIfInBounds_toArray, List.set_cons_zero, List.set_cons_succ])
                  refine wpAnyH_take (i := 26) (oi := { dst := some 148, op := Op.pick (Operand.tmp 144) (Operand.tmp 147) (Operand.const (Value.bool false)), type := 4, pos := "law.go:147", after := #[{ on := 22, ground := Ground.data }, { on := 25, ground := Ground.data }, { on := 19, ground := Ground.guard }], guard := some (19, false) }) (v := ?_) rfl (by kernel_rfl) (by kernel_rfl) (by kernel_rfl) (fun _ _ _ h => h) (Or.inl ⟨by rfl, ?_⟩) (by assumption) ?_
                  rotate_left
                  · ((intro w hSw; (try dsimp only at hSw); go_simp); try with_reducible rfl)
                  (try simp only [Act.put, List.setIfInBounds_toArray, List.set_cons_zero, List.set_cons_succ])
                  refine wpAnyH_take (i := 27) (oi := { dst := some 149, op := Op.move (Operand.tmp 148), type := 4, pos := "law.go:147", after := #[{ on := 26, ground := Ground.data }, { on := 22, ground := Ground.chain }, { on := 19, ground := Ground.guard }], guard := some (19, false) }) (v := ?_) rfl (by kernel_rfl) (by kernel_rfl) (by kernel_rfl) (fun _ _ _ h => h) (Or.inl ⟨by rfl, ?_⟩) (by assumption) ?_
                  rotate_left
                  · ((intro w hSw; (try dsimp only at hSw); go_simp); try with_reducible rfl)
                  (try simp only [Act.put, List.setIfInBounds_toArray, List.set_cons_zero, List.set_cons_succ])
                  refine wpAnyH_take (i := 28) (oi := { dst := some 150, op := Op.move (Operand.tmp 5), type := 28, pos := "law.go:147", after := #[{ on := 27, ground := Ground.guard }], guard := some (27, true) }) (v := ?_) rfl (by kernel_rfl) (by kernel_rfl) (by kernel_rfl) (fun _ _ _ h => h) (Or.inl ⟨by rfl, ?_⟩) (by assumption) ?_
                  rotate_left
                  · ((intro w hSw; (try dsimp only at hSw); go_simp); try with_reducible rfl)
                  (try simp only [Act.put, List.setIfInBounds_toArray, List.set_cons_zero, List.set_cons_succ])
                  refine wpAnyH_take (i := 29) (oi := { dst := some 151, op := Op.move (Operand.tmp 6), type := 3, pos := "law.go:147", after := #[{ on := 27, ground := Ground.guard }], guard := some (27, true) }) (v := ?_) rfl (by kernel_rfl) (by kernel_rfl) (by kernel_rfl) (fun _ _ _ h => h) (Or.inl ⟨by rfl, ?_⟩) (by assumption) ?_
                  rotate_left
                  · ((intro w hSw; (try dsimp only at hSw); go_simp); try with_reducible rfl)
                  (try simp only [Act.put, List.setIfInBounds_toArray, List.set_cons_zero, List.set_cons_succ])
                  refine wpAnyH_take (i := 30) (oi := { dst := some 152, op := Op.indexAddr 28 (Operand.tmp 150) (Operand.tmp 151), type := 0, pos := "law.go:147", after := #[{ on := 28, ground := Ground.data }, { on := 29, ground := Ground.data }, { on := 27, ground := Ground.guard }], guard := some (27, true) }) (v := ?_) rfl (by kernel_rfl) (by kernel_rfl) (by kernel_rfl) (fun _ _ _ h => h) (Or.inl ⟨by rfl, ?_⟩) (by assumption) ?_
                  rotate_left
                  · ((intro w hSw; (try dsimp only at hSw); go_simp); try with_reducible rfl)
                  (try simp only [Act.put, List.setIfInBounds_toArray, List.set_cons_zero, List.set_cons_succ])
                  refine wpAnyH_take (i := 31) (oi := { dst := some 153, op := Op.load 29 (Operand.tmp 152), type := 29, pos := "law.go:147", after := #[{ on := 30, ground := Ground.data }, { on := 27, ground := Ground.guard }], guard := some (27, true) }) (v := ?_) rfl (by kernel_rfl) (by kernel_rfl) (by kernel_rfl) (fun _ _ _ h => h) (Or.inl ⟨by rfl, ?_⟩) (by assumption) ?_
                  rotate_left
                  · ((intro w hSw; (try dsimp only at hSw); go_simp); try with_reducible rfl)
                  (try simp only [Act.put, List.setIfInBounds_toArray, List.set_cons_zero, List.set_cons_succ])
                  refine wpAnyH_take (i := 32) (oi := { dst := some 154, op := Op.move (Operand.tmp 7), type := 3, pos := "law.go:147", after := #[{ on := 27, ground := Ground.guard }], guard := some (27, true) }) (v := ?_) rfl (by kernel_rfl) (by kernel_rfl) (by kernel_rfl) (fun _ _ _ h => h) (Or.inl ⟨by rfl, ?_⟩) (by assumption) ?_
                  rotate_left
                  · ((intro w hSw; (try dsimp only at hSw); go_simp); try with_reducible rfl)
                  (try simp only [Act.put, List.setIfInBounds_toArray, List.set_cons_zero, List.set_cons_succ])
                  refine wpAnyH_take (i := 33) (oi := { dst := some 155, op := Op.indexAddr 29 (Operand.tmp 153) (Operand.tmp 154), type := 0, pos := "law.go:147", after := #[{ on := 31, ground := Ground.data }, { on := 32, ground := Ground.data }, { on := 27, ground := Ground.guard }], guard := some (27, true) }) (v := ?_) rfl (by kernel_rfl) (by kernel_rfl) (by kernel_rfl) (fun _ _ _ h => h) (Or.inl ⟨by rfl, ?_⟩) (by assumption) ?_
                  rotate_left
                  · ((intro w hSw; (try dsimp only at hSw); go_simp); try with_reducible rfl)
                  (try simp only [Act.put, List.setIfInBounds_toArray, List.set_cons_zero, List.set_cons_succ])
                  refine wpAnyH_take (i := 34) (oi := { dst := some 156, op := Op.load 3 (Operand.tmp 155), type := 3, pos := "law.go:147", after := #[{ on := 33, ground := Ground.data }, { on := 27, ground := Ground.guard }], guard := some (27, true) }) (v := ?_) rfl (by kernel_rfl) (by kernel_rfl) (by kernel_rfl) (fun _ _ _ h => h) (Or.inl ⟨by rfl, ?_⟩) (by assumption) ?_
                  rotate_left
                  · ((intro w hSw; (try dsimp only at hSw); go_simp); try with_reducible rfl)
                  (try simp only [Act.put, List.setIfInBounds_toArray, List.set_cons_zero, List.set_cons_succ])
                  refine wpAnyH_take (i := 35) (oi := { dst := some 157, op := Op.binOp BinOp.neq 3 (Operand.tmp 156) (Operand.const (Value.int IntKind.i64 (-1))) 3, type := 4, pos := "law.go:147", after := #[{ on := 34, ground := Ground.data }, { on := 27, ground := Ground.guard }], guard := some (27, true) }) (v := ?_) rfl (by kernel_rfl) (by kernel_rfl) (by kernel_rfl) (fun _ _ _ h => h) (Or.inl ⟨by rfl, ?_⟩) (by assumption) ?_
                  rotate_left
                  · ((intro w hSw; (try dsimp only at hSw); go_simp); try with_reducible rfl)
                  (try simp only [Act.put, List.setIfInBounds_toArray, List.set_cons_zero, List.set_cons_succ])
                  refine wpAnyH_take (i := 36) (oi := { dst := some 158, op := Op.pick (Operand.tmp 149) (Operand.tmp 157) (Operand.const (Value.bool false)), type := 4, pos := "law.go:147", after := #[{ on := 27, ground := Ground.data }, { on := 35, ground := Ground.data }, { on := 19, ground := Ground.guard }], guard := some (19, false) }) (v := ?_) rfl (by kernel_rfl) (by kernel_rfl) (by kernel_rfl) (fun _ _ _ h => h) (Or.inl ⟨by rfl, ?_⟩) (by assumption) ?_
                  rotate_left
                  · ((intro w hSw; (try dsimp only at hSw); go_simp); try with_reducible rfl)
                  (try simp only [Act.put, List.setIfInBounds_toArray, List.set_cons_zero, List.set_cons_succ])
                  refine wpAnyH_take (i := 37) (oi := { dst := some 159, op := Op.pick (Operand.tmp 141) (Operand.const (Value.bool true)) (Operand.tmp 158), type := 4, pos := "law.go:147", after := #[{ on := 19, ground := Ground.data }, { on := 36, ground := Ground.data }], guard := none }) (v := ?_) rfl (by kernel_rfl) (by kernel_rfl) (by kernel_rfl) (fun _ _ _ h => h) (Or.inl ⟨by rfl, ?_⟩) (by assumption) ?_
                  rotate_left
                  · ((intro w hSw; (try dsimp only at hSw); go_simp); try with_reducible rfl)
                  (try simp only [Act.put, List.setIfInBounds_toArray, List.set_cons_zero, List.set_cons_succ])
                  refine wpAnyH_done (by kernel_rfl) ?_ _
                  go_wp2
                  go_roundw
                  case rel => exact ⟨c + 1, by omega, by simp, y1.up hbX, hF.up hsz hbX, below_step hbw hbX, Nat.le_trans hsz hbX.size⟩
                  case measure => simp [intOf]; omega
                · have hb0' : decide (bt < 0) = false := by simpa using hb0
                  have hb0'' : decide (0 ≤ bt) = true := by simp; omega
                  have he := l1 (by omega)
                  subst he
                  have hw := wbt (by omega)
                  by_cases hm : (c : Int) ∈ nearS B a
                  · have hmd : decide ((c : Int) ∈ nearS B a) = true := by simpa using hm
                    have t1 : (bt + 1 == 1) = true := by have := l3.2 hm; simpa using this
                    have t2 : decide (bt + 1 = 1) = true := by have := l3.2 hm; simpa using this
                    have t3 : (bt + 1 == -1) = false := by simp; omega
                    clear hb1 wbt hb0 l1 l2 l3 hlw hac hm
                    go_wp2_with fail
                    have hnr := callsIn_wide.1 (near_in B hB an at_ cn ct a _ wr.drew (Nat.le_refl _) (HHH.out.up (Nat.le_refl _) (Below.refl _ wr).drew))
                    have HNR := Lib.hid hnr
                    have HMD := Lib.hid hmd
                    clear hnr hmd
                    refine wp_region_held_drew (S := fun w' => w'.cell? ⟨b1, 0, none⟩ = some (.int .i64 B.cells) ∧ w'.cell? ⟨b1, 1, none⟩ = some (.slice an B.next.length cn) ∧ w'.cell? ⟨b1, 2, none⟩ = some (.slice at_ B.turn.length ct) ∧ w'.cell? ⟨b, off + a, none⟩ = some (.slice (some ⟨b3, off3, none⟩) n cj') ∧ w'.cell? ⟨b3, off3 + c, none⟩ = some (.int .i64 (bt + 1))) (by kernel_rfl) ⟨c0, c1, c2, hcr, hce⟩ (fun hHeld => ?_)
                    refine wpAnyH_take (i := 0) (oi := { dst := some 122, op := Op.move (Operand.tmp 6), type := 3, pos := "law.go:147", after := #[], guard := none }) (v := ?_) rfl (by kernel_rfl) (by kernel_rfl) (by kernel_rfl) (fun _ _ _ h => h) (Or.inl ⟨by rfl, ?_⟩) (by assumption) ?_
                    rotate_left
                    · ((intro w hSw; (try dsimp only at hSw); go_simp); try with_reducible rfl)
                    (try simp only [Act.put, List.setIfInBounds_toArray, List.set_cons_zero, List.set_cons_succ])
                    refine wpAnyH_take (i := 1) (oi := { dst := some 123, op := Op.move (Operand.tmp 7), type := 3, pos := "law.go:147", after := #[], guard := none }) (v := ?_) rfl (by kernel_rfl) (by kernel_rfl) (by kernel_rfl) (fun _ _ _ h => h) (Or.inl ⟨by rfl, ?_⟩) (by assumption) ?_
                    rotate_left
                    · ((intro w hSw; (try dsimp only at hSw); go_simp); try with_reducible rfl)
                    (try simp only [Act.put, List.setIfInBounds_toArray, List.set_cons_zero, List.set_cons_succ])
                    refine wpAnyH_take (i := 2) (oi := { dst := some 124, op := Op.binOp BinOp.neq 3 (Operand.tmp 122) (Operand.tmp 123) 3, type := 4, pos := "law.go:147", after := #[{ on := 0, ground := Ground.data }, { on := 1, ground := Ground.data }], guard := none }) (v := ?_) rfl (by kernel_rfl) (by kernel_rfl) (by kernel_rfl) (fun _ _ _ h => h) (Or.inl ⟨by rfl, ?_⟩) (by assumption) ?_
                    rotate_left
                    · ((intro w hSw; (try dsimp only at hSw); go_simp); try with_reducible rfl)
                    (try simp only [Act.put, List.setIfInBounds_toArray, List.set_cons_zero, List.set_cons_succ])
                    refine wpAnyH_take (i := 3) (oi := { dst := some 125, op := Op.move (Operand.tmp 124), type := 4, pos := "law.go:147", after := #[{ on := 2, ground := Ground.data }], guard := none }) (v := ?_) rfl (by kernel_rfl) (by kernel_rfl) (by kernel_rfl) (fun _ _ _ h => h) (Or.inl ⟨by rfl, ?_⟩) (by assumption) ?_
                    rotate_left
                    · ((intro w hSw; (try dsimp only at hSw); go_simp); try with_reducible rfl)
                    (try simp only [Act.put, List.setIfInBounds_toArray, List.set_cons_zero, List.set_cons_succ])
                    refine wpAnyH_take (i := 4) (oi := { dst := some 126, op := Op.move (Operand.tmp 5), type := 28, pos := "law.go:147", after := #[{ on := 3, ground := Ground.guard }], guard := some (3, true) }) (v := ?_) rfl (by kernel_rfl) (by kernel_rfl) (by kernel_rfl) (fun _ _ _ h => h) (Or.inl ⟨by rfl, ?_⟩) (by assumption) ?_
                    rotate_left
                    · ((intro w hSw; (try dsimp only at hSw); go_simp); try with_reducible rfl)
                    (try simp only [Act.put, List.setIfInBounds_toArray, List.set_cons_zero, List.set_cons_succ])
                    refine wpAnyH_take (i := 5) (oi := { dst := some 127, op := Op.move (Operand.tmp 6), type := 3, pos := "law.go:147", after := #[{ on := 3, ground := Ground.guard }], guard := some (3, true) }) (v := ?_) rfl (by kernel_rfl) (by kernel_rfl) (by kernel_rfl) (fun _ _ _ h => h) (Or.inl ⟨by rfl, ?_⟩) (by assumption) ?_
                    rotate_left
                    · ((intro w hSw; (try dsimp only at hSw); go_simp); try with_reducible rfl)
                    (try simp only [Act.put, List.setIfInBounds_toArray, List.set_cons_zero, List.set_cons_succ])
                    refine wpAnyH_take (i := 6) (oi := { dst := some 128, op := Op.indexAddr 28 (Operand.tmp 126) (Operand.tmp 127), type := 0, pos := "law.go:147", after := #[{ on := 4, ground := Ground.data }, { on := 5, ground := Ground.data }, { on := 3, ground := Ground.guard }], guard := some (3, true) }) (v := ?_) rfl (by kernel_rfl) (by kernel_rfl) (by kernel_rfl) (fun _ _ _ h => h) (Or.inl ⟨by rfl, ?_⟩) (by assumption) ?_
                    rotate_left
                    · ((intro w hSw; (try dsimp only at hSw); go_simp); try with_reducible rfl)
                    (try simp only [Act.put, List.setIfInBounds_toArray, List.set_cons_zero, List.set_cons_succ])
                    refine wpAnyH_take (i := 7) (oi := { dst := some 129, op := Op.load 29 (Operand.tmp 128), type := 29, pos := "law.go:147", after := #[{ on := 6, ground := Ground.data }, { on := 3, ground := Ground.guard }], guard := some (3, true) }) (v := ?_) rfl (by kernel_rfl) (by kernel_rfl) (by kernel_rfl) (fun _ _ _ h => h) (Or.inl ⟨by rfl, ?_⟩) (by assumption) ?_
                    rotate_left
                    · ((intro w hSw; (try dsimp only at hSw); go_simp); try with_reducible rfl)
                    (try simp only [Act.put, List.setIfInBounds_toArray, List.set_cons_zero, List.set_cons_succ])
                    refine wpAnyH_take (i := 8) (oi := { dst := some 130, op := Op.move (Operand.tmp 7), type := 3, pos := "law.go:147", after := #[{ on := 3, ground := Ground.guard }], guard := some (3, true) }) (v := ?_) rfl (by kernel_rfl) (by kernel_rfl) (by kernel_rfl) (fun _ _ _ h => h) (Or.inl ⟨by rfl, ?_⟩) (by assumption) ?_
                    rotate_left
                    · ((intro w hSw; (try dsimp only at hSw); go_simp); try with_reducible rfl)
                    (try simp only [Act.put, List.setIfInBounds_toArray, List.set_cons_zero, List.set_cons_succ])
                    refine wpAnyH_take (i := 9) (oi := { dst := some 131, op := Op.indexAddr 29 (Operand.tmp 129) (Operand.tmp 130), type := 0, pos := "law.go:147", after := #[{ on := 7, ground := Ground.data }, { on := 8, ground := Ground.data }, { on := 3, ground := Ground.guard }], guard := some (3, true) }) (v := ?_) rfl (by kernel_rfl) (by kernel_rfl) (by kernel_rfl) (fun _ _ _ h => h) (Or.inl ⟨by rfl, ?_⟩) (by assumption) ?_
                    rotate_left
                    · ((intro w hSw; (try dsimp only at hSw); go_simp); try with_reducible rfl)
                    (try simp only [Act.put, List.setIfInBounds_toArray, List.set_cons_zero, List.set_cons_succ])
                    refine wpAnyH_take (i := 10) (oi := { dst := some 132, op := Op.load 3 (Operand.tmp 131), type := 3, pos := "law.go:147", after := #[{ on := 9, ground := Ground.data }, { on := 3, ground := Ground.guard }], guard := some (3, true) }) (v := ?_) rfl (by kernel_rfl) (by kernel_rfl) (by kernel_rfl) (fun _ _ _ h => h) (Or.inl ⟨by rfl, ?_⟩) (by assumption) ?_
                    rotate_left
                    · ((intro w hSw; (try dsimp only at hSw); go_simp); try with_reducible rfl)
                    (try simp only [Act.put, List.setIfInBounds_toArray, List.set_cons_zero, List.set_cons_succ])
                    refine wpAnyH_take (i := 11) (oi := { dst := some 133, op := Op.binOp BinOp.eql 3 (Operand.tmp 132) (Operand.const (Value.int IntKind.i64 1)) 3, type := 4, pos := "law.go:147", after := #[{ on := 10, ground := Ground.data }, { on := 3, ground := Ground.guard }], guard := some (3, true) }) (v := ?_) rfl (by kernel_rfl) (by kernel_rfl) (by kernel_rfl) (fun _ _ _ h => h) (Or.inl ⟨by rfl, ?_⟩) (by assumption) ?_
                    rotate_left
                    · ((intro w hSw; (try dsimp only at hSw); go_simp); try with_reducible rfl)
                    (try simp only [Act.put, List.setIfInBounds_toArray, List.set_cons_zero, List.set_cons_succ])
                    refine wpAnyH_take (i := 12) (oi := { dst := some 134, op := Op.load 31 (Operand.tmp 4), type := 31, pos := "law.go:147", after := #[{ on := 3, ground := Ground.guard }], guard := some (3, true) }) (v := ?_) rfl (by kernel_rfl) (by kernel_rfl) (by kernel_rfl) (fun _ _ _ h => h) (Or.inl ⟨by rfl, ?_⟩) (by assumption) ?_
                    rotate_left
                    · ((intro w hSw; (try dsimp only at hSw); go_simp); try with_reducible rfl)
                    (try simp only [Act.put, List.setIfInBounds_toArray, List.set_cons_zero, List.set_cons_succ])
                    refine wpAnyH_take (i := 13) (oi := { dst := some 135, op := Op.move (Operand.tmp 6), type := 3, pos := "law.go:147", after := #[{ on := 3, ground := Ground.guard }], guard := some (3, true) }) (v := ?_) rfl (by kernel_rfl) (by kernel_rfl) (by kernel_rfl) (fun _ _ _ h => h) (Or.inl ⟨by rfl, ?_⟩) (by assumption) ?_
                    rotate_left
                    · ((intro w hSw; (try dsimp only at hSw); go_simp); try with_reducible rfl)
                    (try simp only [Act.put, List.setIfInBounds_toArray, List.set_cons_zero, List.set_cons_succ])
                    refine wpAnyH_take (i := 15) (oi := { dst := some 137, op := Op.move (Operand.tmp 7), type := 3, pos := "law.go:147", after := #[{ on := 3, ground := Ground.guard }], guard := some (3, true) }) (v := ?_) rfl (by kernel_rfl) (by kernel_rfl) (by kernel_rfl) (fun _ _ _ h => h) (Or.inl ⟨by rfl, ?_⟩) (by assumption) ?_
                    rotate_left
                    · ((intro w hSw; (try dsimp only at hSw); go_simp); try with_reducible rfl)
                    (try simp only [Act.put, List.setIfInBounds_toArray, List.set_cons_zero, List.set_cons_succ])
                    refine wpAnyH_ready (rs := [14]) (by kernel_rfl) (by simp) ?_
                    refine AllReadyH.cons (o := { dst := some 136, op := Op.call { callee := Callee.value (Operand.func 18), args := #[Operand.tmp 134, Operand.tmp 135], argTypes := #[31, 3] }, type := 29, pos := "law.go:147", after := #[{ on := 12, ground := Ground.data }, { on := 13, ground := Ground.data }, { on := 3, ground := Ground.chain }, { on := 3, ground := Ground.guard }], guard := some (3, true) }) rfl (fun K hK => ?_) AllReadyH.nil
                    refine step_call_g rfl 18 _ _ #[.agg #[.int .i64 B.cells, .slice an B.next.length cn, .slice at_ B.turn.length ct], .int .i64 a] rfl rfl (enters_of Tryd.func18 (by kernel_rfl) rfl) (HNR.out.mono ?_)
                    rintro e6 w6 ⟨v6, rfl, hown6, hb6⟩
                    obtain ⟨a6, cap6, rfl, hI6⟩ := OwnInts.ints hown6
                    have hhas := has_any (nearS B a) c a6 cap6 _ w6 (by have := near_len hB (a : Int); omega) hI6
                    rw [HMD.out] at hhas
                    have HHAS := Lib.hid hhas
                    have hbX : Below wr.heap.size wr w6 := below_step ((Below.refl _ wr).drew) hb6
                    refine ⟨_, rfl, hK.out _ _ ⟨cell_keep hbX c0, cell_keep hbX c1, cell_keep hbX c2, cell_keep hbX hcr, cell_keep hbX hce⟩ (fun hS6 => ?_)⟩
                    clear hK K hhas hown6 hI6 hb6
                    (try simp only [Act.put, List.setIfInBounds_toArray, List.set_cons_zero, List.set_cons_succ])
                    refine wpAnyH_ready (rs := [16]) (by kernel_rfl) (by simp) ?_
                    refine AllReadyH.cons (o := { dst := some 138, op := Op.call { callee := Callee.value (Operand.func 30), args := #[Operand.tmp 136, Operand.tmp 137], argTypes := #[29, 3] }, type := 4, pos := "law.go:147", after := #[{ on := 14, ground := Ground.data }, { on := 15, ground := Ground.data }, { on := 14, ground := Ground.chain }, { on := 3, ground := Ground.guard }], guard := some (3, true) }) rfl (fun K hK => ?_) AllReadyH.nil
                    refine step_call_g rfl 30 _ _ #[.slice a6 (nearS B a).length cap6, .int .i64 c] rfl rfl (enters_of Tryd.func30 (by kernel_rfl) rfl) (HHAS.out.mono ?_)
                    rintro e7 w7 ⟨rfl, rfl⟩
                    refine ⟨_, rfl, hK.out _ _ hS6 (fun _ => ?_)⟩
                    clear hK K
                    (try simp only [Act.put, List.setIfInBounds_toArray, List.set_cons_zero, List.set_cons_succ])
                    refine wpAnyH_take (i := 17) (oi := { dst := some 139, op := Op.binOp BinOp.neq 4 (Operand.tmp 133) (Operand.tmp 138) 4, type := 4, pos := "law.go:147", after := #[{ on := 11, ground := Ground.data }, { on := 16, ground := Ground.data }, { on := 3, ground := Ground.guard }], guard := some (3, true) }) (v := ?_) rfl (by kernel_rfl) (by kernel_rfl) (by kernel_rfl) (fun _ _ _ h => h) (Or.inl ⟨by rfl, ?_⟩) (by assumption) ?_
                    rotate_left
                    · ((intro w hSw; (try dsimp only at hSw); go_simp); try with_reducible rfl)
                    (try simp only [Act.put, List.setIfInBounds_toArray, List.set_cons_zero, List.set_cons_succ])
                    refine wpAnyH_take (i := 18) (oi := { dst := some 140, op := Op.pick (Operand.tmp 125) (Operand.tmp 139) (Operand.const (Value.bool false)), type := 4, pos := "law.go:147", after := #[{ on := 3, ground := Ground.data }, { on := 17, ground := Ground.data }], guard := none }) (v := ?_) rfl (by kernel_rfl) (by kernel_rfl) (by kernel_rfl) (fun _ _ _ h => h) (Or.inl ⟨by rfl, ?_⟩) (by assumption) ?_
                    rotate_left
                    · ((intro w hSw; (try dsimp only at hSw); go_simp); try with_reducible rfl)
                    (try simp only [Act.put, List.setIfInBounds_toArray, List.set_cons_zero, List.set_cons_succ])
                    refine wpAnyH_take (i := 19) (oi := { dst := some 141, op := Op.move (Operand.tmp 140), type := 4, pos := "law.go:147", after := #[{ on := 18, ground := Ground.data }, { on := 16, ground := Ground.chain }], guard := none }) (v := ?_) rfl (by kernel_rfl) (by kernel_rfl) (by kernel_rfl) (fun _ _ _ h => h) (Or.inl ⟨by rfl, ?_⟩) (by assumption) ?_
                    rotate_left
                    · ((intro w hSw; (try dsimp only at hSw); go_simp); try with_reducible rfl)
                    (try simp only [Act.put, List.setIfInBounds_toArray, List.set_cons_zero, List.set_cons_succ])
                    refine wpAnyH_take (i := 20) (oi := { dst := some 142, op := Op.move (Operand.tmp 8), type := 3, pos := "law.go:147", after := #[{ on := 19, ground := Ground.guard }], guard := some (19, false) }) (v := ?_) rfl (by kernel_rfl) (by kernel_rfl) (by kernel_rfl) (fun _ _ _ h => h) (Or.inl ⟨by rfl, ?_⟩) (by assumption) ?_
                    rotate_left
                    · ((intro w hSw; (try dsimp only at hSw); go_simp); try with_reducible rfl)
                    (try simp only [Act.put, List.setIfInBounds_toArray, List.set_cons_zero, List.set_cons_succ])
                    refine wpAnyH_take (i := 21) (oi := { dst := some 143, op := Op.binOp BinOp.lss 3 (Operand.tmp 142) (Operand.const (Value.int IntKind.i64 0)) 3, type := 4, pos := "law.go:147", after := #[{ on := 20, ground := Ground.data }, { on := 19, ground := Ground.guard }], guard := some (19, false) }) (v := ?_) rfl (by kernel_rfl) (by kernel_rfl) (by kernel_rfl) (fun _ _ _ h => h) (Or.inl ⟨by rfl, ?_⟩) (by assumption) ?_
                    rotate_left
                    · ((intro w hSw; (try dsimp only at hSw); go_simp); try with_reducible rfl)
                    (try simp only [Act.put, List.setIfInBounds_toArray, List.set_cons_zero, List.set_cons_succ])
                    refine wpAnyH_take (i := 22) (oi := { dst := some 144, op := Op.move (Operand.tmp 143), type := 4, pos := "law.go:147", after := #[{ on := 21, ground := Ground.data }, { on := 19, ground := Ground.chain }, { on := 19, ground := Ground.guard }], guard := some (19, false) }) (v := ?_) rfl (by kernel_rfl) (by kernel_rfl) (by kernel_rfl) (fun _ _ _ h => h) (Or.inl ⟨by rfl, ?_⟩) (by assumption) ?_
                    rotate_left
                    · ((intro w hSw; (try dsimp only at hSw); go_simp); try with_reducible rfl)
                    (try simp only [Act.put, List.setIfInBounds_toArray, List.set_cons_zero, List.set_cons_succ])
                    refine wpAnyH_take (i := 23) (oi := { dst := some 145, op := Op.move (Operand.tmp 6), type := 3, pos := "law.go:147", after := #[{ on := 22, ground := Ground.guard }], guard := some (22, true) }) (v := undef) rfl (by kernel_rfl) (by kernel_rfl) (by kernel_rfl) (fun _ _ _ h => h) (Or.inr ⟨by rfl, rfl⟩) (by assumption) ?_
                    (try simp only [Act.put, List.setIfInBounds_toArray, List.set_cons_zero, List.set_cons_succ])
                    refine wpAnyH_take (i := 24) (oi := { dst := some 146, op := Op.move (Operand.tmp 7), type := 3, pos := "law.go:147", after := #[{ on := 22, ground := Ground.guard }], guard := some (22, true) }) (v := undef) rfl (by kernel_rfl) (by kernel_rfl) (by kernel_rfl) (fun _ _ _ h => h) (Or.inr ⟨by rfl, rfl⟩) (by assumption) ?_
                    (try simp only [Act.put, List.setIfInBounds_toArray, List.set_cons_zero, List.set_cons_succ])
                    refine wpAnyH_take (i := 25) (oi := { dst := some 147, op := Op.binOp BinOp.neq 3 (Operand.tmp 145) (Operand.tmp 146) 3, type := 4, pos := "law.go:147", after := #[{ on := 23, ground := Ground.data }, { on := 24, ground := Ground.data }, { on := 22, ground := Ground.guard }], guard := some (22, true) }) (v := undef) rfl (by kernel_rfl) (by kernel_rfl) (by kernel_rfl) (fun _ _ _ h => h) (Or.inr ⟨by rfl, rfl⟩) (by assumption) ?_
                    (try simp only [Act.put, List.setIfInBounds_toArray, List.set_cons_zero, List.set_cons_succ])
                    refine wpAnyH_take (i := 26) (oi := { dst := some 148, op := Op.pick (Operand.tmp 144) (Operand.tmp 147) (Operand.const (Value.bool false)), type := 4, pos := "law.go:147", after := #[{ on := 22, ground := Ground.data }, { on := 25, ground := Ground.data }, { on := 19, ground := Ground.guard }], guard := some (19, false) }) (v := ?_) rfl (by kernel_rfl) (by kernel_rfl) (by kernel_rfl) (fun _ _ _ h => h) (Or.inl ⟨by rfl, ?_⟩) (by assumption) ?_
                    rotate_left
                    · ((intro w hSw; (try dsimp only at hSw); go_simp); try with_reducible rfl)
                    (try simp only [Act.put, List.setIfInBounds_toArray, List.set_cons_zero, List.set_cons_succ])
                    refine wpAnyH_take (i := 27) (oi := { dst := some 149, op := Op.move (Operand.tmp 148), type := 4, pos := "law.go:147", after := #[{ on := 26, ground := Ground.data }, { on := 22, ground := Ground.chain }, { on := 19, ground := Ground.guard }], guard := some (19, false) }) (v := ?_) rfl (by kernel_rfl) (by kernel_rfl) (by kernel_rfl) (fun _ _ _ h => h) (Or.inl ⟨by rfl, ?_⟩) (by assumption) ?_
                    rotate_left
                    · ((intro w hSw; (try dsimp only at hSw); go_simp); try with_reducible rfl)
                    (try simp only [Act.put, List.setIfInBounds_toArray, List.set_cons_zero, List.set_cons_succ])
                    refine wpAnyH_take (i := 28) (oi := { dst := some 150, op := Op.move (Operand.tmp 5), type := 28, pos := "law.go:147", after := #[{ on := 27, ground := Ground.guard }], guard := some (27, true) }) (v := undef) rfl (by kernel_rfl) (by kernel_rfl) (by kernel_rfl) (fun _ _ _ h => h) (Or.inr ⟨by rfl, rfl⟩) (by assumption) ?_
                    (try simp only [Act.put, List.setIfInBounds_toArray, List.set_cons_zero, List.set_cons_succ])
                    refine wpAnyH_take (i := 29) (oi := { dst := some 151, op := Op.move (Operand.tmp 6), type := 3, pos := "law.go:147", after := #[{ on := 27, ground := Ground.guard }], guard := some (27, true) }) (v := undef) rfl (by kernel_rfl) (by kernel_rfl) (by kernel_rfl) (fun _ _ _ h => h) (Or.inr ⟨by rfl, rfl⟩) (by assumption) ?_
                    (try simp only [Act.put, List.setIfInBounds_toArray, List.set_cons_zero, List.set_cons_succ])
                    refine wpAnyH_take (i := 30) (oi := { dst := some 152, op := Op.indexAddr 28 (Operand.tmp 150) (Operand.tmp 151), type := 0, pos := "law.go:147", after := #[{ on := 28, ground := Ground.data }, { on := 29, ground := Ground.data }, { on := 27, ground := Ground.guard }], guard := some (27, true) }) (v := undef) rfl (by kernel_rfl) (by kernel_rfl) (by kernel_rfl) (fun _ _ _ h => h) (Or.inr ⟨by rfl, rfl⟩) (by assumption) ?_
                    (try simp only [Act.put, List.setIfInBounds_toArray, List.set_cons_zero, List.set_cons_succ])
                    refine wpAnyH_take (i := 31) (oi := { dst := some 153, op := Op.load 29 (Operand.tmp 152), type := 29, pos := "law.go:147", after := #[{ on := 30, ground := Ground.data }, { on := 27, ground := Ground.guard }], guard := some (27, true) }) (v := undef) rfl (by kernel_rfl) (by kernel_rfl) (by kernel_rfl) (fun _ _ _ h => h) (Or.inr ⟨by rfl, rfl⟩) (by assumption) ?_
                    (try simp only [Act.put, List.setIfInBounds_toArray, List.set_cons_zero, List.set_cons_succ])
                    refine wpAnyH_take (i := 32) (oi := { dst := some 154, op := Op.move (Operand.tmp 7), type := 3, pos := "law.go:147", after := #[{ on := 27, ground := Ground.guard }], guard := some (27, true) }) (v := undef) rfl (by kernel_rfl) (by kernel_rfl) (by kernel_rfl) (fun _ _ _ h => h) (Or.inr ⟨by rfl, rfl⟩) (by assumption) ?_
                    (try simp only [Act.put, List.setIfInBounds_toArray, List.set_cons_zero, List.set_cons_succ])
                    refine wpAnyH_take (i := 33) (oi := { dst := some 155, op := Op.indexAddr 29 (Operand.tmp 153) (Operand.tmp 154), type := 0, pos := "law.go:147", after := #[{ on := 31, ground := Ground.data }, { on := 32, ground := Ground.data }, { on := 27, ground := Ground.guard }], guard := some (27, true) }) (v := undef) rfl (by kernel_rfl) (by kernel_rfl) (by kernel_rfl) (fun _ _ _ h => h) (Or.inr ⟨by rfl, rfl⟩) (by assumption) ?_
                    (try simp only [Act.put, List.setIfInBounds_toArray, List.set_cons_zero, List.set_cons_succ])
                    refine wpAnyH_take (i := 34) (oi := { dst := some 156, op := Op.load 3 (Operand.tmp 155), type := 3, pos := "law.go:147", after := #[{ on := 33, ground := Ground.data }, { on := 27, ground := Ground.guard }], guard := some (27, true) }) (v := undef) rfl (by kernel_rfl) (by kernel_rfl) (by kernel_rfl) (fun _ _ _ h => h) (Or.inr ⟨by rfl, rfl⟩) (by assumption) ?_
                    (try simp only [Act.put, List.setIfInBounds_toArray, List.set_cons_zero, List.set_cons_succ])
                    refine wpAnyH_take (i := 35) (oi := { dst := some 157, op := Op.binOp BinOp.neq 3 (Operand.tmp 156) (Operand.const (Value.int IntKind.i64 (-1))) 3, type := 4, pos := "law.go:147", after := #[{ on := 34, ground := Ground.data }, { on := 27, ground := Ground.guard }], guard := some (27, true) }) (v := undef) rfl (by kernel_rfl) (by kernel_rfl) (by kernel_rfl) (fun _ _ _ h => h) (Or.inr ⟨by rfl, rfl⟩) (by assumption) ?_
                    (try simp only [Act.put, List.setIfInBounds_toArray, List.set_cons_zero, List.set_cons_succ])
                    refine wpAnyH_take (i := 36) (oi := { dst := some 158, op := Op.pick (Operand.tmp 149) (Operand.tmp 157) (Operand.const (Value.bool false)), type := 4, pos := "law.go:147", after := #[{ on := 27, ground := Ground.data }, { on := 35, ground := Ground.data }, { on := 19, ground := Ground.guard }], guard := some (19, false) }) (v := ?_) rfl (by kernel_rfl) (by kernel_rfl) (by kernel_rfl) (fun _ _ _ h => h) (Or.inl ⟨by rfl, ?_⟩) (by assumption) ?_
                    rotate_left
                    · ((intro w hSw; (try dsimp only at hSw); go_simp); try with_reducible rfl)
                    (try simp only [Act.put, List.setIfInBounds_toArray, List.set_cons_zero, List.set_cons_succ])
                    refine wpAnyH_take (i := 37) (oi := { dst := some 159, op := Op.pick (Operand.tmp 141) (Operand.const (Value.bool true)) (Operand.tmp 158), type := 4, pos := "law.go:147", after := #[{ on := 19, ground := Ground.data }, { on := 36, ground := Ground.data }], guard := none }) (v := ?_) rfl (by kernel_rfl) (by kernel_rfl) (by kernel_rfl) (fun _ _ _ h => h) (Or.inl ⟨by rfl, ?_⟩) (by assumption) ?_
                    rotate_left
                    · ((intro w hSw; (try dsimp only at hSw); go_simp); try with_reducible rfl)
                    (try simp only [Act.put, List.setIfInBounds_toArray, List.set_cons_zero, List.set_cons_succ])
                    refine wpAnyH_done (by kernel_rfl) ?_ _
                    go_wp2
                    go_roundw
                    case rel => exact ⟨c + 1, by omega, by simp, y1.up hbX, hF.up hsz hbX, below_step hbw hbX, Nat.le_trans hsz hbX.size⟩
                    case measure => simp [intOf]; omega
                  · have hmd : decide ((c : Int) ∈ nearS B a) = false := by simpa using hm
                    have t1 : (bt + 1 == 1) = false := by have := fun h => hm (l3.1 h); simpa using this
                    have t2 : decide (bt + 1 = 1) = false := by have := fun h => hm (l3.1 h); simpa using this
                    have t3 : (bt + 1 == -1) = false := by simp; omega
                    clear hb1 wbt hb0 l1 l2 l3 hlw hac hm
                    go_wp2_with fail
                    have hnr := callsIn_wide.1 (near_in B hB an at_ cn ct a _ wr.drew (Nat.le_refl _) (HHH.out.up (Nat.le_refl _) (Below.refl _ wr).drew))
                    have HNR := Lib.hid hnr
                    have HMD := Lib.hid hmd
                    clear hnr hmd
                    refine wp_region_held_drew (S := fun w' => w'.cell? ⟨b1, 0, none⟩ = some (.int .i64 B.cells) ∧ w'.cell? ⟨b1, 1, none⟩ = some (.slice an B.next.length cn) ∧ w'.cell? ⟨b1, 2, none⟩ = some (.slice at_ B.turn.length ct) ∧ w'.cell? ⟨b, off + a, none⟩ = some (.slice (some ⟨b3, off3, none⟩) n cj') ∧ w'.cell? ⟨b3, off3 + c, none⟩ = some (.int .i64 (bt + 1))) (by kernel_rfl) ⟨c0, c1, c2, hcr, hce⟩ (fun hHeld => ?_)
                    refine wpAnyH_take (i := 0) (oi := { dst := some 122, op := Op.move (Operand.tmp 6), type := 3, pos := "law.go:147", after := #[], guard := none }) (v := ?_) rfl (by kernel_rfl) (by kernel_rfl) (by kernel_rfl) (fun _ _ _ h => h) (Or.inl ⟨by rfl, ?_⟩) (by assumption) ?_
                    rotate_left
                    · ((intro w hSw; (try dsimp only at hSw); go_simp); try with_reducible rfl)
                    (try simp only [Act.put, List.setIfInBounds_toArray, List.set_cons_zero, List.set_cons_succ])
                    refine wpAnyH_take (i := 1) (oi := { dst := some 123, op := Op.move (Operand.tmp 7), type := 3, pos := "law.go:147", after := #[], guard := none }) (v := ?_) rfl (by kernel_rfl) (by kernel_rfl) (by kernel_rfl) (fun _ _ _ h => h) (Or.inl ⟨by rfl, ?_⟩) (by assumption) ?_
                    rotate_left
                    · ((intro w hSw; (try dsimp only at hSw); go_simp); try with_reducible rfl)
                    (try simp only [Act.put, List.setIfInBounds_toArray, List.set_cons_zero, List.set_cons_succ])
                    refine wpAnyH_take (i := 2) (oi := { dst := some 124, op := Op.binOp BinOp.neq 3 (Operand.tmp 122) (Operand.tmp 123) 3, type := 4, pos := "law.go:147", after := #[{ on := 0, ground := Ground.data }, { on := 1, ground := Ground.data }], guard := none }) (v := ?_) rfl (by kernel_rfl) (by kernel_rfl) (by kernel_rfl) (fun _ _ _ h => h) (Or.inl ⟨by rfl, ?_⟩) (by assumption) ?_
                    rotate_left
                    · ((intro w hSw; (try dsimp only at hSw); go_simp); try with_reducible rfl)
                    (try simp only [Act.put, List.setIfInBounds_toArray, List.set_cons_zero, List.set_cons_succ])
                    refine wpAnyH_take (i := 3) (oi := { dst := some 125, op := Op.move (Operand.tmp 124), type := 4, pos := "law.go:147", after := #[{ on := 2, ground := Ground.data }], guard := none }) (v := ?_) rfl (by kernel_rfl) (by kernel_rfl) (by kernel_rfl) (fun _ _ _ h => h) (Or.inl ⟨by rfl, ?_⟩) (by assumption) ?_
                    rotate_left
                    · ((intro w hSw; (try dsimp only at hSw); go_simp); try with_reducible rfl)
                    (try simp only [Act.put, List.setIfInBounds_toArray, List.set_cons_zero, List.set_cons_succ])
                    refine wpAnyH_take (i := 4) (oi := { dst := some 126, op := Op.move (Operand.tmp 5), type := 28, pos := "law.go:147", after := #[{ on := 3, ground := Ground.guard }], guard := some (3, true) }) (v := ?_) rfl (by kernel_rfl) (by kernel_rfl) (by kernel_rfl) (fun _ _ _ h => h) (Or.inl ⟨by rfl, ?_⟩) (by assumption) ?_
                    rotate_left
                    · ((intro w hSw; (try dsimp only at hSw); go_simp); try with_reducible rfl)
                    (try simp only [Act.put, List.setIfInBounds_toArray, List.set_cons_zero, List.set_cons_succ])
                    refine wpAnyH_take (i := 5) (oi := { dst := some 127, op := Op.move (Operand.tmp 6), type := 3, pos := "law.go:147", after := #[{ on := 3, ground := Ground.guard }], guard := some (3, true) }) (v := ?_) rfl (by kernel_rfl) (by kernel_rfl) (by kernel_rfl) (fun _ _ _ h => h) (Or.inl ⟨by rfl, ?_⟩) (by assumption) ?_
                    rotate_left
                    · ((intro w hSw; (try dsimp only at hSw); go_simp); try with_reducible rfl)
                    (try simp only [Act.put, List.setIfInBounds_toArray, List.set_cons_zero, List.set_cons_succ])
                    refine wpAnyH_take (i := 6) (oi := { dst := some 128, op := Op.indexAddr 28 (Operand.tmp 126) (Operand.tmp 127), type := 0, pos := "law.go:147", after := #[{ on := 4, ground := Ground.data }, { on := 5, ground := Ground.data }, { on := 3, ground := Ground.guard }], guard := some (3, true) }) (v := ?_) rfl (by kernel_rfl) (by kernel_rfl) (by kernel_rfl) (fun _ _ _ h => h) (Or.inl ⟨by rfl, ?_⟩) (by assumption) ?_
                    rotate_left
                    · ((intro w hSw; (try dsimp only at hSw); go_simp); try with_reducible rfl)
                    (try simp only [Act.put, List.setIfInBounds_toArray, List.set_cons_zero, List.set_cons_succ])
                    refine wpAnyH_take (i := 7) (oi := { dst := some 129, op := Op.load 29 (Operand.tmp 128), type := 29, pos := "law.go:147", after := #[{ on := 6, ground := Ground.data }, { on := 3, ground := Ground.guard }], guard := some (3, true) }) (v := ?_) rfl (by kernel_rfl) (by kernel_rfl) (by kernel_rfl) (fun _ _ _ h => h) (Or.inl ⟨by rfl, ?_⟩) (by assumption) ?_
                    rotate_left
                    · ((intro w hSw; (try dsimp only at hSw); go_simp); try with_reducible rfl)
                    (try simp only [Act.put, List.setIfInBounds_toArray, List.set_cons_zero, List.set_cons_succ])
                    refine wpAnyH_take (i := 8) (oi := { dst := some 130, op := Op.move (Operand.tmp 7), type := 3, pos := "law.go:147", after := #[{ on := 3, ground := Ground.guard }], guard := some (3, true) }) (v := ?_) rfl (by kernel_rfl) (by kernel_rfl) (by kernel_rfl) (fun _ _ _ h => h) (Or.inl ⟨by rfl, ?_⟩) (by assumption) ?_
                    rotate_left
                    · ((intro w hSw; (try dsimp only at hSw); go_simp); try with_reducible rfl)
                    (try simp only [Act.put, List.setIfInBounds_toArray, List.set_cons_zero, List.set_cons_succ])
                    refine wpAnyH_take (i := 9) (oi := { dst := some 131, op := Op.indexAddr 29 (Operand.tmp 129) (Operand.tmp 130), type := 0, pos := "law.go:147", after := #[{ on := 7, ground := Ground.data }, { on := 8, ground := Ground.data }, { on := 3, ground := Ground.guard }], guard := some (3, true) }) (v := ?_) rfl (by kernel_rfl) (by kernel_rfl) (by kernel_rfl) (fun _ _ _ h => h) (Or.inl ⟨by rfl, ?_⟩) (by assumption) ?_
                    rotate_left
                    · ((intro w hSw; (try dsimp only at hSw); go_simp); try with_reducible rfl)
                    (try simp only [Act.put, List.setIfInBounds_toArray, List.set_cons_zero, List.set_cons_succ])
                    refine wpAnyH_take (i := 10) (oi := { dst := some 132, op := Op.load 3 (Operand.tmp 131), type := 3, pos := "law.go:147", after := #[{ on := 9, ground := Ground.data }, { on := 3, ground := Ground.guard }], guard := some (3, true) }) (v := ?_) rfl (by kernel_rfl) (by kernel_rfl) (by kernel_rfl) (fun _ _ _ h => h) (Or.inl ⟨by rfl, ?_⟩) (by assumption) ?_
                    rotate_left
                    · ((intro w hSw; (try dsimp only at hSw); go_simp); try with_reducible rfl)
                    (try simp only [Act.put, List.setIfInBounds_toArray, List.set_cons_zero, List.set_cons_succ])
                    refine wpAnyH_take (i := 11) (oi := { dst := some 133, op := Op.binOp BinOp.eql 3 (Operand.tmp 132) (Operand.const (Value.int IntKind.i64 1)) 3, type := 4, pos := "law.go:147", after := #[{ on := 10, ground := Ground.data }, { on := 3, ground := Ground.guard }], guard := some (3, true) }) (v := ?_) rfl (by kernel_rfl) (by kernel_rfl) (by kernel_rfl) (fun _ _ _ h => h) (Or.inl ⟨by rfl, ?_⟩) (by assumption) ?_
                    rotate_left
                    · ((intro w hSw; (try dsimp only at hSw); go_simp); try with_reducible rfl)
                    (try simp only [Act.put, List.setIfInBounds_toArray, List.set_cons_zero, List.set_cons_succ])
                    refine wpAnyH_take (i := 12) (oi := { dst := some 134, op := Op.load 31 (Operand.tmp 4), type := 31, pos := "law.go:147", after := #[{ on := 3, ground := Ground.guard }], guard := some (3, true) }) (v := ?_) rfl (by kernel_rfl) (by kernel_rfl) (by kernel_rfl) (fun _ _ _ h => h) (Or.inl ⟨by rfl, ?_⟩) (by assumption) ?_
                    rotate_left
                    · ((intro w hSw; (try dsimp only at hSw); go_simp); try with_reducible rfl)
                    (try simp only [Act.put, List.setIfInBounds_toArray, List.set_cons_zero, List.set_cons_succ])
                    refine wpAnyH_take (i := 13) (oi := { dst := some 135, op := Op.move (Operand.tmp 6), type := 3, pos := "law.go:147", after := #[{ on := 3, ground := Ground.guard }], guard := some (3, true) }) (v := ?_) rfl (by kernel_rfl) (by kernel_rfl) (by kernel_rfl) (fun _ _ _ h => h) (Or.inl ⟨by rfl, ?_⟩) (by assumption) ?_
                    rotate_left
                    · ((intro w hSw; (try dsimp only at hSw); go_simp); try with_reducible rfl)
                    (try simp only [Act.put, List.setIfInBounds_toArray, List.set_cons_zero, List.set_cons_succ])
                    refine wpAnyH_take (i := 15) (oi := { dst := some 137, op := Op.move (Operand.tmp 7), type := 3, pos := "law.go:147", after := #[{ on := 3, ground := Ground.guard }], guard := some (3, true) }) (v := ?_) rfl (by kernel_rfl) (by kernel_rfl) (by kernel_rfl) (fun _ _ _ h => h) (Or.inl ⟨by rfl, ?_⟩) (by assumption) ?_
                    rotate_left
                    · ((intro w hSw; (try dsimp only at hSw); go_simp); try with_reducible rfl)
                    (try simp only [Act.put, List.setIfInBounds_toArray, List.set_cons_zero, List.set_cons_succ])
                    refine wpAnyH_ready (rs := [14]) (by kernel_rfl) (by simp) ?_
                    refine AllReadyH.cons (o := { dst := some 136, op := Op.call { callee := Callee.value (Operand.func 18), args := #[Operand.tmp 134, Operand.tmp 135], argTypes := #[31, 3] }, type := 29, pos := "law.go:147", after := #[{ on := 12, ground := Ground.data }, { on := 13, ground := Ground.data }, { on := 3, ground := Ground.chain }, { on := 3, ground := Ground.guard }], guard := some (3, true) }) rfl (fun K hK => ?_) AllReadyH.nil
                    refine step_call_g rfl 18 _ _ #[.agg #[.int .i64 B.cells, .slice an B.next.length cn, .slice at_ B.turn.length ct], .int .i64 a] rfl rfl (enters_of Tryd.func18 (by kernel_rfl) rfl) (HNR.out.mono ?_)
                    rintro e6 w6 ⟨v6, rfl, hown6, hb6⟩
                    obtain ⟨a6, cap6, rfl, hI6⟩ := OwnInts.ints hown6
                    have hhas := has_any (nearS B a) c a6 cap6 _ w6 (by have := near_len hB (a : Int); omega) hI6
                    rw [HMD.out] at hhas
                    have HHAS := Lib.hid hhas
                    have hbX : Below wr.heap.size wr w6 := below_step ((Below.refl _ wr).drew) hb6
                    refine ⟨_, rfl, hK.out _ _ ⟨cell_keep hbX c0, cell_keep hbX c1, cell_keep hbX c2, cell_keep hbX hcr, cell_keep hbX hce⟩ (fun hS6 => ?_)⟩
                    clear hK K hhas hown6 hI6 hb6
                    (try simp only [Act.put, List.setIfInBounds_toArray, List.set_cons_zero, List.set_cons_succ])
                    refine wpAnyH_ready (rs := [16]) (by kernel_rfl) (by simp) ?_
                    refine AllReadyH.cons (o := { dst := some 138, op := Op.call { callee := Callee.value (Operand.func 30), args := #[Operand.tmp 136, Operand.tmp 137], argTypes := #[29, 3] }, type := 4, pos := "law.go:147", after := #[{ on := 14, ground := Ground.data }, { on := 15, ground := Ground.data }, { on := 14, ground := Ground.chain }, { on := 3, ground := Ground.guard }], guard := some (3, true) }) rfl (fun K hK => ?_) AllReadyH.nil
                    refine step_call_g rfl 30 _ _ #[.slice a6 (nearS B a).length cap6, .int .i64 c] rfl rfl (enters_of Tryd.func30 (by kernel_rfl) rfl) (HHAS.out.mono ?_)
                    rintro e7 w7 ⟨rfl, rfl⟩
                    refine ⟨_, rfl, hK.out _ _ hS6 (fun _ => ?_)⟩
                    clear hK K
                    (try simp only [Act.put, List.setIfInBounds_toArray, List.set_cons_zero, List.set_cons_succ])
                    refine wpAnyH_take (i := 17) (oi := { dst := some 139, op := Op.binOp BinOp.neq 4 (Operand.tmp 133) (Operand.tmp 138) 4, type := 4, pos := "law.go:147", after := #[{ on := 11, ground := Ground.data }, { on := 16, ground := Ground.data }, { on := 3, ground := Ground.guard }], guard := some (3, true) }) (v := ?_) rfl (by kernel_rfl) (by kernel_rfl) (by kernel_rfl) (fun _ _ _ h => h) (Or.inl ⟨by rfl, ?_⟩) (by assumption) ?_
                    rotate_left
                    · ((intro w hSw; (try dsimp only at hSw); go_simp); try with_reducible rfl)
                    (try simp only [Act.put, List.setIfInBounds_toArray, List.set_cons_zero, List.set_cons_succ])
                    refine wpAnyH_take (i := 18) (oi := { dst := some 140, op := Op.pick (Operand.tmp 125) (Operand.tmp 139) (Operand.const (Value.bool false)), type := 4, pos := "law.go:147", after := #[{ on := 3, ground := Ground.data }, { on := 17, ground := Ground.data }], guard := none }) (v := ?_) rfl (by kernel_rfl) (by kernel_rfl) (by kernel_rfl) (fun _ _ _ h => h) (Or.inl ⟨by rfl, ?_⟩) (by assumption) ?_
                    rotate_left
                    · ((intro w hSw; (try dsimp only at hSw); go_simp); try with_reducible rfl)
                    (try simp only [Act.put, List.setIfInBounds_toArray, List.set_cons_zero, List.set_cons_succ])
                    refine wpAnyH_take (i := 19) (oi := { dst := some 141, op := Op.move (Operand.tmp 140), type := 4, pos := "law.go:147", after := #[{ on := 18, ground := Ground.data }, { on := 16, ground := Ground.chain }], guard := none }) (v := ?_) rfl (by kernel_rfl) (by kernel_rfl) (by kernel_rfl) (fun _ _ _ h => h) (Or.inl ⟨by rfl, ?_⟩) (by assumption) ?_
                    rotate_left
                    · ((intro w hSw; (try dsimp only at hSw); go_simp); try with_reducible rfl)
                    (try simp only [Act.put, List.setIfInBounds_toArray, List.set_cons_zero, List.set_cons_succ])
                    refine wpAnyH_take (i := 20) (oi := { dst := some 142, op := Op.move (Operand.tmp 8), type := 3, pos := "law.go:147", after := #[{ on := 19, ground := Ground.guard }], guard := some (19, false) }) (v := ?_) rfl (by kernel_rfl) (by kernel_rfl) (by kernel_rfl) (fun _ _ _ h => h) (Or.inl ⟨by rfl, ?_⟩) (by assumption) ?_
                    rotate_left
                    · ((intro w hSw; (try dsimp only at hSw); go_simp); try with_reducible rfl)
                    (try simp only [Act.put, List.setIfInBounds_toArray, List.set_cons_zero, List.set_cons_succ])
                    refine wpAnyH_take (i := 21) (oi := { dst := some 143, op := Op.binOp BinOp.lss 3 (Operand.tmp 142) (Operand.const (Value.int IntKind.i64 0)) 3, type := 4, pos := "law.go:147", after := #[{ on := 20, ground := Ground.data }, { on := 19, ground := Ground.guard }], guard := some (19, false) }) (v := ?_) rfl (by kernel_rfl) (by kernel_rfl) (by kernel_rfl) (fun _ _ _ h => h) (Or.inl ⟨by rfl, ?_⟩) (by assumption) ?_
                    rotate_left
                    · ((intro w hSw; (try dsimp only at hSw); go_simp); try with_reducible rfl)
                    (try simp only [Act.put, List.setIfInBounds_toArray, List.set_cons_zero, List.set_cons_succ])
                    refine wpAnyH_take (i := 22) (oi := { dst := some 144, op := Op.move (Operand.tmp 143), type := 4, pos := "law.go:147", after := #[{ on := 21, ground := Ground.data }, { on := 19, ground := Ground.chain }, { on := 19, ground := Ground.guard }], guard := some (19, false) }) (v := ?_) rfl (by kernel_rfl) (by kernel_rfl) (by kernel_rfl) (fun _ _ _ h => h) (Or.inl ⟨by rfl, ?_⟩) (by assumption) ?_
                    rotate_left
                    · ((intro w hSw; (try dsimp only at hSw); go_simp); try with_reducible rfl)
                    (try simp only [Act.put, List.setIfInBounds_toArray, List.set_cons_zero, List.set_cons_succ])
                    refine wpAnyH_take (i := 23) (oi := { dst := some 145, op := Op.move (Operand.tmp 6), type := 3, pos := "law.go:147", after := #[{ on := 22, ground := Ground.guard }], guard := some (22, true) }) (v := undef) rfl (by kernel_rfl) (by kernel_rfl) (by kernel_rfl) (fun _ _ _ h => h) (Or.inr ⟨by rfl, rfl⟩) (by assumption) ?_
                    (try simp only [Act.put, List.setIfInBounds_toArray, List.set_cons_zero, List.set_cons_succ])
                    refine wpAnyH_take (i := 24) (oi := { dst := some 146, op := Op.move (Operand.tmp 7), type := 3, pos := "law.go:147", after := #[{ on := 22, ground := Ground.guard }], guard := some (22, true) }) (v := undef) rfl (by kernel_rfl) (by kernel_rfl) (by kernel_rfl) (fun _ _ _ h => h) (Or.inr ⟨by rfl, rfl⟩) (by assumption) ?_
                    (try simp only [Act.put, List.setIfInBounds_toArray, List.set_cons_zero, List.set_cons_succ])
                    refine wpAnyH_take (i := 25) (oi := { dst := some 147, op := Op.binOp BinOp.neq 3 (Operand.tmp 145) (Operand.tmp 146) 3, type := 4, pos := "law.go:147", after := #[{ on := 23, ground := Ground.data }, { on := 24, ground := Ground.data }, { on := 22, ground := Ground.guard }], guard := some (22, true) }) (v := undef) rfl (by kernel_rfl) (by kernel_rfl) (by kernel_rfl) (fun _ _ _ h => h) (Or.inr ⟨by rfl, rfl⟩) (by assumption) ?_
                    (try simp only [Act.put, List.setIfInBounds_toArray, List.set_cons_zero, List.set_cons_succ])
                    refine wpAnyH_take (i := 26) (oi := { dst := some 148, op := Op.pick (Operand.tmp 144) (Operand.tmp 147) (Operand.const (Value.bool false)), type := 4, pos := "law.go:147", after := #[{ on := 22, ground := Ground.data }, { on := 25, ground := Ground.data }, { on := 19, ground := Ground.guard }], guard := some (19, false) }) (v := ?_) rfl (by kernel_rfl) (by kernel_rfl) (by kernel_rfl) (fun _ _ _ h => h) (Or.inl ⟨by rfl, ?_⟩) (by assumption) ?_
                    rotate_left
                    · ((intro w hSw; (try dsimp only at hSw); go_simp); try with_reducible rfl)
                    (try simp only [Act.put, List.setIfInBounds_toArray, List.set_cons_zero, List.set_cons_succ])
                    refine wpAnyH_take (i := 27) (oi := { dst := some 149, op := Op.move (Operand.tmp 148), type := 4, pos := "law.go:147", after := #[{ on := 26, ground := Ground.data }, { on := 22, ground := Ground.chain }, { on := 19, ground := Ground.guard }], guard := some (19, false) }) (v := ?_) rfl (by kernel_rfl) (by kernel_rfl) (by kernel_rfl) (fun _ _ _ h => h) (Or.inl ⟨by rfl, ?_⟩) (by assumption) ?_
                    rotate_left
                    · ((intro w hSw; (try dsimp only at hSw); go_simp); try with_reducible rfl)
                    (try simp only [Act.put, List.setIfInBounds_toArray, List.set_cons_zero, List.set_cons_succ])
                    refine wpAnyH_take (i := 28) (oi := { dst := some 150, op := Op.move (Operand.tmp 5), type := 28, pos := "law.go:147", after := #[{ on := 27, ground := Ground.guard }], guard := some (27, true) }) (v := undef) rfl (by kernel_rfl) (by kernel_rfl) (by kernel_rfl) (fun _ _ _ h => h) (Or.inr ⟨by rfl, rfl⟩) (by assumption) ?_
                    (try simp only [Act.put, List.setIfInBounds_toArray, List.set_cons_zero, List.set_cons_succ])
                    refine wpAnyH_take (i := 29) (oi := { dst := some 151, op := Op.move (Operand.tmp 6), type := 3, pos := "law.go:147", after := #[{ on := 27, ground := Ground.guard }], guard := some (27, true) }) (v := undef) rfl (by kernel_rfl) (by kernel_rfl) (by kernel_rfl) (fun _ _ _ h => h) (Or.inr ⟨by rfl, rfl⟩) (by assumption) ?_
                    (try simp only [Act.put, List.setIfInBounds_toArray, List.set_cons_zero, List.set_cons_succ])
                    refine wpAnyH_take (i := 30) (oi := { dst := some 152, op := Op.indexAddr 28 (Operand.tmp 150) (Operand.tmp 151), type := 0, pos := "law.go:147", after := #[{ on := 28, ground := Ground.data }, { on := 29, ground := Ground.data }, { on := 27, ground := Ground.guard }], guard := some (27, true) }) (v := undef) rfl (by kernel_rfl) (by kernel_rfl) (by kernel_rfl) (fun _ _ _ h => h) (Or.inr ⟨by rfl, rfl⟩) (by assumption) ?_
                    (try simp only [Act.put, List.setIfInBounds_toArray, List.set_cons_zero, List.set_cons_succ])
                    refine wpAnyH_take (i := 31) (oi := { dst := some 153, op := Op.load 29 (Operand.tmp 152), type := 29, pos := "law.go:147", after := #[{ on := 30, ground := Ground.data }, { on := 27, ground := Ground.guard }], guard := some (27, true) }) (v := undef) rfl (by kernel_rfl) (by kernel_rfl) (by kernel_rfl) (fun _ _ _ h => h) (Or.inr ⟨by rfl, rfl⟩) (by assumption) ?_
                    (try simp only [Act.put, List.setIfInBounds_toArray, List.set_cons_zero, List.set_cons_succ])
                    refine wpAnyH_take (i := 32) (oi := { dst := some 154, op := Op.move (Operand.tmp 7), type := 3, pos := "law.go:147", after := #[{ on := 27, ground := Ground.guard }], guard := some (27, true) }) (v := undef) rfl (by kernel_rfl) (by kernel_rfl) (by kernel_rfl) (fun _ _ _ h => h) (Or.inr ⟨by rfl, rfl⟩) (by assumption) ?_
                    (try simp only [Act.put, List.setIfInBounds_toArray, List.set_cons_zero, List.set_cons_succ])
                    refine wpAnyH_take (i := 33) (oi := { dst := some 155, op := Op.indexAddr 29 (Operand.tmp 153) (Operand.tmp 154), type := 0, pos := "law.go:147", after := #[{ on := 31, ground := Ground.data }, { on := 32, ground := Ground.data }, { on := 27, ground := Ground.guard }], guard := some (27, true) }) (v := undef) rfl (by kernel_rfl) (by kernel_rfl) (by kernel_rfl) (fun _ _ _ h => h) (Or.inr ⟨by rfl, rfl⟩) (by assumption) ?_
                    (try simp only [Act.put, List.setIfInBounds_toArray, List.set_cons_zero, List.set_cons_succ])
                    refine wpAnyH_take (i := 34) (oi := { dst := some 156, op := Op.load 3 (Operand.tmp 155), type := 3, pos := "law.go:147", after := #[{ on := 33, ground := Ground.data }, { on := 27, ground := Ground.guard }], guard := some (27, true) }) (v := undef) rfl (by kernel_rfl) (by kernel_rfl) (by kernel_rfl) (fun _ _ _ h => h) (Or.inr ⟨by rfl, rfl⟩) (by assumption) ?_
                    (try simp only [Act.put, List.setIfInBounds_toArray, List.set_cons_zero, List.set_cons_succ])
                    refine wpAnyH_take (i := 35) (oi := { dst := some 157, op := Op.binOp BinOp.neq 3 (Operand.tmp 156) (Operand.const (Value.int IntKind.i64 (-1))) 3, type := 4, pos := "law.go:147", after := #[{ on := 34, ground := Ground.data }, { on := 27, ground := Ground.guard }], guard := some (27, true) }) (v := undef) rfl (by kernel_rfl) (by kernel_rfl) (by kernel_rfl) (fun _ _ _ h => h) (Or.inr ⟨by rfl, rfl⟩) (by assumption) ?_
                    (try simp only [Act.put, List.setIfInBounds_toArray, List.set_cons_zero, List.set_cons_succ])
                    refine wpAnyH_take (i := 36) (oi := { dst := some 158, op := Op.pick (Operand.tmp 149) (Operand.tmp 157) (Operand.const (Value.bool false)), type := 4, pos := "law.go:147", after := #[{ on := 27, ground := Ground.data }, { on := 35, ground := Ground.data }, { on := 19, ground := Ground.guard }], guard := some (19, false) }) (v := ?_) rfl (by kernel_rfl) (by kernel_rfl) (by kernel_rfl) (fun _ _ _ h => h) (Or.inl ⟨by rfl, ?_⟩) (by assumption) ?_
                    rotate_left
                    · ((intro w hSw; (try dsimp only at hSw); go_simp); try with_reducible rfl)
                    (try simp only [Act.put, List.setIfInBounds_toArray, List.set_cons_zero, List.set_cons_succ])
                    refine wpAnyH_take (i := 37) (oi := { dst := some 159, op := Op.pick (Operand.tmp 141) (Operand.const (Value.bool true)) (Operand.tmp 158), type := 4, pos := "law.go:147", after := #[{ on := 19, ground := Ground.data }, { on := 36, ground := Ground.data }], guard := none }) (v := ?_) rfl (by kernel_rfl) (by kernel_rfl) (by kernel_rfl) (fun _ _ _ h => h) (Or.inl ⟨by rfl, ?_⟩) (by assumption) ?_
                    rotate_left
                    · ((intro w hSw; (try dsimp only at hSw); go_simp); try with_reducible rfl)
                    (try simp only [Act.put, List.setIfInBounds_toArray, List.set_cons_zero, List.set_cons_succ])
                    refine wpAnyH_done (by kernel_rfl) ?_ _
                    go_wp2
                    go_roundw
                    case rel => exact ⟨c + 1, by omega, by simp, y1.up hbX, hF.up hsz hbX, below_step hbw hbX, Nat.le_trans hsz hbX.size⟩
                    case measure => simp [intOf]; omega
        · go_wp2
          go_roundw
          case rel => exact ⟨a + 1, by omega, by simp, y1, hF, hbw, hsz⟩
          case measure => simp [intOf]; omega
    · go_wp2
      go_ret
      exact ⟨rfl, hbw⟩
end Go.Proofs.YtccapadoeocebaaDoor
