/-
  The law of the parts.
-/
import Derived.Test.YtccapadoeocebaaDoorPartsLP
import Derived.Test.YtccapadoeocebaaDoorPartsW
namespace Go.Proofs.YtccapadoeocebaaDoor
open Go Go.RowKit Go.Shelf

set_option maxRecDepth 100000 in
set_option maxHeartbeats 8000000 in
theorem partsL_any (xs : Array Value) (x0 x1 x2 : Nat) (nx : Nat → Nat) (hx : RawIn xs x0 x1 x2 nx) (w : World) (hR : RaysIn w) :
    Calls Tryd.prog 8 #[.agg xs] w fun e w' => e = .returned (.bool true) ∧ Below w.heap.size w w' := by
  go_enter Tryd.func8, Tryd.ntmps8
  go_wp2_with fail
  refine (sanity_any _ (hR.up (below_alloc (Below.refl _ _) _))).mono ?_
  rintro e w1 ⟨rfl, hb1⟩
  have hx1 : w1.heap[w.heap.size]? = some (.cells xs 24 (0, 0)) := (hb1.block w.heap.size (by rw [World.size_alloc]; omega)).trans (World.alloc_heap_new _ _)
  have hb1' : Below w.heap.size w w1 := below_step (below_alloc (Below.refl _ _) _) hb1
  clear hb1
  go_wp2_with (with_reducible refine wpList_load_row rfl 24 (.tmp 1) rfl w.heap.size rfl 24 xs (0, 0) _ hx1 Tryd.underlying24 rfl (by rw [hx.size]; exact info_raw) ?_)
  refine (wild_in hx w1).mono ?_
  rintro e w2 ⟨an, cn, at_, ct, rfl, hH2, hb2⟩
  have hsm := wild_small hx
  generalize wildS (1 + x0 % 8) (1 + x1 % 4) x2 nx = B at hH2 hsm ⊢
  have y1 := InBox.new cn ct hH2
  have hb2' := below_alloc (below_step hb1' hb2) (.cells #[.int .i64 B.cells, .slice an B.next.length cn, .slice at_ B.turn.length ct] 31)
  obtain ⟨c0, c1, c2, hH⟩ := id y1
  have hB := hsm.ok
  have hlo := hB.lo
  have hc8 := hsm.cells
  have hd4 := hsm.dirs
  obtain ⟨n, hn⟩ := Int.eq_ofNat_of_zero_le (show 0 ≤ B.cells by omega)
  have hn1 : 1 ≤ n := by omega
  have hn8 : n ≤ 8 := by omega
  have HN := Lib.hid hn
  clear hb2 hH2 hx1 hb1' hlo hc8
  have hle1 : B.cells ≤ n := by omega
  have hle2 : (n : Int) ≤ B.cells := by omega
  have hpl := parts_len hn
  clear hn
  have hlaw := fun c (hc : c < n) => parts_law hB HN.out hc
  have HLAW := Lib.hid hlaw
  clear hlaw
  go_wp2_with fail
  refine (callsIn_wide.1 (parts_in B hsm.valid an at_ cn ct _ _ (Nat.le_refl _) hH)).mono ?_
  rintro e w4 ⟨v4, rfl, hown, hb4⟩
  obtain ⟨a4, cap4, rfl, hI⟩ := OwnInts.ints hown
  generalize partsS B = P at hI hpl HLAW ⊢
  rw [hpl]
  have HPL := Lib.hid hpl
  have y4 := y1.up hb4
  have hbw4 := below_step hb2' hb4
  clear hown y1 hb2' hb4 c0 c1 c2 hH hpl
  have t0 : ((n : Int) != B.cells) = false := by simp; omega
  have t0' : ((n : Int) == B.cells) = true := by simp; omega
  have t0'' : decide ((n : Int) = B.cells) = true := by simp; omega
  generalize w2.heap.size = b1 at *
  obtain ⟨c0, c1, c2, _⟩ := id y4
  go_wp2_with fail
  clear c0 c1 c2
  go_loopw [6] (fun i wr => ∃ a : Nat, a ≤ n ∧ i = .int .i64 a ∧ InBox wr b1 an at_ cn ct B ∧ Ints w4.heap.size wr a4 P ∧ Below w.heap.size w wr ∧ w4.heap.size ≤ wr.heap.size)
    (fun i _ => n - (intOf i).toNat)
  case atStart => exact ⟨0, Nat.zero_le _, rfl, y4, hI, hbw4, Nat.le_refl _⟩
  case round =>
    clear y4 hI hbw4
    obtain ⟨c, hc, rfl, y1, hI, hbw, hsz⟩ := hrel
    obtain ⟨c0, c1, c2, hH⟩ := id y1
    by_cases hcn : c < n
    · have t1 : decide ((c : Int) < B.cells) = true := by simp; omega
      obtain ⟨p, hpc, e1, e2, hlk, hnx⟩ := HLAW.out c hcn
      obtain ⟨b5, off5, ha5, _, hc1⟩ := hI.at_ (j := c) (by rw [HPL.out]; exact hcn)
      obtain ⟨b6, off6, ha6, _, hc2⟩ := hI.at_ (j := p) (by rw [HPL.out]; omega)
      subst ha5
      obtain ⟨rfl, rfl⟩ : b5 = b6 ∧ off5 = off6 := by simpa using ha6
      rw [e1] at hc1
      rw [e2] at hc2
      have HNX := Lib.hid hnx
      have HLK := Lib.hid hlk
      have HE1 := Lib.hid e1
      have HE2 := Lib.hid e2
      clear hnx hlk e1 e2 ha6
      have t2 : decide ((p : Int) < 0) = false := by simp
      have t3 : decide ((c : Int) < p) = false := by simp; omega
      have t3' : decide ((p : Int) > c) = false := by simp; omega
      have t3n : decide (c < p) = false := by simp; omega
      have hpn : p < n := by omega
      have t4 : ((p : Int) != p) = false := by simp
      go_wp2_with fail
      go_quiet (fail)
      have HY := Lib.hid y1
      have HI := Lib.hid hI
      have HBW := Lib.hid hbw
      have HSZ := Lib.hid hsz
      clear y1 hI hbw hsz hH c0 c1 c2 hc1 hc2
      go_wp2_with fail
      go_loopw [7] (fun i wi => ∃ d : Nat, d ≤ B.next.length ∧ i = .int .i64 d ∧ InBox wi b1 an at_ cn ct B ∧ Ints w4.heap.size wi (some ⟨b5, off5, none⟩) P ∧ Below w.heap.size w wi ∧ w4.heap.size ≤ wi.heap.size)
        (fun i _ => B.next.length - (intOf i).toNat)
      case atStart => exact ⟨0, Nat.zero_le _, rfl, HY.out.up (below_drewN_ (Below.refl _ _) _), HI.out.up HSZ.out (below_drewN_ (Below.refl _ _) _), below_drewN_ HBW.out _, HSZ.out⟩
      case round =>
        obtain ⟨d, hd, rfl, y1, hI, hbw, hsz⟩ := hrel
        obtain ⟨c0, c1, c2, hH⟩ := id y1
        by_cases hdl : d < B.next.length
        · have tdl : decide (d < B.next.length) = true := by simpa using hdl
          obtain ⟨b7, off7, aj, cj, hab, _, hcr, hIr⟩ := hH.1.at_ hdl
          subst hab
          have hrl := hB.row d hdl
          generalize hrow : B.next[d]?.getD [] = row at hcr hIr hrl
          have hlr : c < row.length := by omega
          obtain ⟨b8, off8, haj, _, hcc⟩ := hIr.at_ hlr
          subst haj
          have hz : nextS B d c = row[c]?.getD 0 := by
            unfold nextS
            rw [if_pos ⟨by omega, by omega, by omega, by omega⟩, Int.toNat_natCast, Int.toNat_natCast, hrow]
          have hnx := HNX.out d hdl
          rw [hz] at hnx
          obtain ⟨bb, oo, hbo, _, hc1⟩ := hI.at_ (j := c) (by rw [HPL.out]; exact hcn)
          obtain ⟨rfl, rfl⟩ : b5 = bb ∧ off5 = oo := by simpa using hbo
          rw [HE1.out] at hc1
          generalize row[c]?.getD 0 = z at hnx hcc
          clear hz hrow hbo hIr hH
          by_cases h0 : 0 ≤ z
          · obtain ⟨v, rfl, hvn, hpv⟩ := hnx h0
            obtain ⟨bb, oo, hbo, _, hc3⟩ := hI.at_ (j := v) (by rw [HPL.out]; exact hvn)
            obtain ⟨rfl, rfl⟩ : b5 = bb ∧ off5 = oo := by simpa using hbo
            rw [hpv] at hc3
            have tz : decide (0 ≤ (v : Int)) = true := by simp
            clear hnx hpv hbo h0
            go_wp2_with fail
            go_quiet (fail)
            go_wp2
            go_roundw
            case rel => exact ⟨d + 1, by omega, by simp, y1.up (below_drewN_ (Below.refl _ _) _), hI.up hsz (below_drewN_ (Below.refl _ _) _), below_drewN_ hbw _, hsz⟩
            case measure => simp [intOf]; omega
          · have tz : decide (0 ≤ z) = false := by simpa using h0
            clear hnx
            go_wp2_with fail
            go_quiet (fail)
            go_wp2
            go_roundw
            case rel => exact ⟨d + 1, by omega, by simp, y1.up (below_drewN_ (Below.refl _ _) _), hI.up hsz (below_drewN_ (Below.refl _ _) _), below_drewN_ hbw _, hsz⟩
            case measure => simp [intOf]; omega
        · have tdl : decide (d < B.next.length) = false := by simp; omega
          obtain ⟨_, _, _, _, hc1⟩ := hI.at_ (j := c) (by rw [HPL.out]; exact hcn)
          rename_i bb oo hbo _
          obtain ⟨rfl, rfl⟩ : b5 = bb ∧ off5 = oo := by simpa using hbo
          rw [HE1.out] at hc1
          have hlkd := linked_any B hB n HN.out an at_ cn ct p hpn wr.drew (hH.up (Nat.le_refl _) (Below.refl _ wr).drew)
          have HLD := Lib.hid hlkd
          clear hlkd
          go_wp2_with fail
          refine wp_region_held_drew (S := fun w' => w'.cell? ⟨b1, 0, none⟩ = some (.int .i64 B.cells) ∧ w'.cell? ⟨b1, 1, none⟩ = some (.slice an B.next.length cn) ∧ w'.cell? ⟨b1, 2, none⟩ = some (.slice at_ B.turn.length ct) ∧ w'.cell? ⟨b5, off5 + c, none⟩ = some (.int .i64 (p : Int))) (by kernel_rfl) ⟨c0, c1, c2, hc1⟩ (fun hHeld => ?_)
          refine wpAnyH_take (i := 0) (oi := { dst := some 85, op := Op.load 31 (Operand.tmp 4), type := 31, pos := "law.go:172", after := #[], guard := none }) (v := ?_) rfl (by kernel_rfl) (by kernel_rfl) (by kernel_rfl) (fun _ _ _ h => h) (Or.inl ⟨by rfl, ?_⟩) (by assumption) ?_
          rotate_left
          · ((intro w hSw; (try dsimp only at hSw); go_simp); try with_reducible rfl)
          (try simp only [Act.put, List.setIfInBounds_toArray, List.set_cons_zero, List.set_cons_succ])
          refine wpAnyH_take (i := 1) (oi := { dst := some 86, op := Op.move (Operand.tmp 5), type := 29, pos := "law.go:172", after := #[], guard := none }) (v := ?_) rfl (by kernel_rfl) (by kernel_rfl) (by kernel_rfl) (fun _ _ _ h => h) (Or.inl ⟨by rfl, ?_⟩) (by assumption) ?_
          rotate_left
          · ((intro w hSw; (try dsimp only at hSw); go_simp); try with_reducible rfl)
          (try simp only [Act.put, List.setIfInBounds_toArray, List.set_cons_zero, List.set_cons_succ])
          refine wpAnyH_take (i := 2) (oi := { dst := some 87, op := Op.move (Operand.tmp 6), type := 3, pos := "law.go:172", after := #[], guard := none }) (v := ?_) rfl (by kernel_rfl) (by kernel_rfl) (by kernel_rfl) (fun _ _ _ h => h) (Or.inl ⟨by rfl, ?_⟩) (by assumption) ?_
          rotate_left
          · ((intro w hSw; (try dsimp only at hSw); go_simp); try with_reducible rfl)
          (try simp only [Act.put, List.setIfInBounds_toArray, List.set_cons_zero, List.set_cons_succ])
          refine wpAnyH_take (i := 3) (oi := { dst := some 88, op := Op.indexAddr 29 (Operand.tmp 86) (Operand.tmp 87), type := 0, pos := "law.go:172", after := #[{ on := 1, ground := Ground.data }, { on := 2, ground := Ground.data }], guard := none }) (v := ?_) rfl (by kernel_rfl) (by kernel_rfl) (by kernel_rfl) (fun _ _ _ h => h) (Or.inl ⟨by rfl, ?_⟩) (by assumption) ?_
          rotate_left
          · ((intro w hSw; (try dsimp only at hSw); go_simp); try with_reducible rfl)
          (try simp only [Act.put, List.setIfInBounds_toArray, List.set_cons_zero, List.set_cons_succ])
          refine wpAnyH_take (i := 4) (oi := { dst := some 89, op := Op.load 3 (Operand.tmp 88), type := 3, pos := "law.go:172", after := #[{ on := 3, ground := Ground.data }], guard := none }) (v := ?_) rfl (by kernel_rfl) (by kernel_rfl) (by kernel_rfl) (fun _ _ _ h => h) (Or.inl ⟨by rfl, ?_⟩) (by assumption) ?_
          rotate_left
          · ((intro w hSw; (try dsimp only at hSw); go_simp); try with_reducible rfl)
          (try simp only [Act.put, List.setIfInBounds_toArray, List.set_cons_zero, List.set_cons_succ])
          refine wpAnyH_take (i := 6) (oi := { dst := some 91, op := Op.move (Operand.tmp 6), type := 3, pos := "law.go:172", after := #[], guard := none }) (v := ?_) rfl (by kernel_rfl) (by kernel_rfl) (by kernel_rfl) (fun _ _ _ h => h) (Or.inl ⟨by rfl, ?_⟩) (by assumption) ?_
          rotate_left
          · ((intro w hSw; (try dsimp only at hSw); go_simp); try with_reducible rfl)
          (try simp only [Act.put, List.setIfInBounds_toArray, List.set_cons_zero, List.set_cons_succ])
          refine wpAnyH_ready (rs := [5]) (by kernel_rfl) (by simp) ?_
          refine AllReadyH.cons (o := { dst := some 90, op := Op.call { callee := Callee.value (Operand.func 31), args := #[Operand.tmp 85, Operand.tmp 89], argTypes := #[31, 3] }, type := 29, pos := "law.go:172", after := #[{ on := 0, ground := Ground.data }, { on := 4, ground := Ground.data }], guard := none }) rfl (fun K hK => ?_) AllReadyH.nil
          refine step_call_g rfl 31 _ _ #[.agg #[.int .i64 B.cells, .slice an B.next.length cn, .slice at_ B.turn.length ct], .int .i64 p] rfl rfl (enters_of Tryd.func31 (by kernel_rfl) rfl) (HLD.out.mono ?_)
          rintro e6 w6 ⟨v6, L, rfl, hown6, hLl, hLm, hb6⟩
          obtain ⟨a6, cap6, rfl, hI6⟩ := OwnInts.ints hown6
          have hhas := has_any L c a6 cap6 _ w6 (by omega) hI6
          rw [show decide ((c : Int) ∈ L) = true by simpa using (hLm c).2 HLK.out] at hhas
          have HHAS := Lib.hid hhas
          have hbX : Below wr.heap.size wr w6 := below_step ((Below.refl _ wr).drew) hb6
          refine ⟨_, rfl, hK.out _ _ ⟨cell_keep hbX c0, cell_keep hbX c1, cell_keep hbX c2, cell_keep hbX hc1⟩ (fun hS6 => ?_)⟩
          clear hK K hhas hown6 hI6 hb6
          (try simp only [Act.put, List.setIfInBounds_toArray, List.set_cons_zero, List.set_cons_succ])
          refine wpAnyH_ready (rs := [7]) (by kernel_rfl) (by simp) ?_
          refine AllReadyH.cons (o := { dst := some 92, op := Op.call { callee := Callee.value (Operand.func 30), args := #[Operand.tmp 90, Operand.tmp 91], argTypes := #[29, 3] }, type := 4, pos := "law.go:172", after := #[{ on := 5, ground := Ground.data }, { on := 6, ground := Ground.data }, { on := 5, ground := Ground.chain }], guard := none }) rfl (fun K hK => ?_) AllReadyH.nil
          refine step_call_g rfl 30 _ _ #[.slice a6 L.length cap6, .int .i64 c] rfl rfl (enters_of Tryd.func30 (by kernel_rfl) rfl) (HHAS.out.mono ?_)
          rintro e7 w7 ⟨rfl, rfl⟩
          refine ⟨_, rfl, hK.out _ _ hS6 (fun _ => ?_)⟩
          clear hK K
          (try simp only [Act.put, List.setIfInBounds_toArray, List.set_cons_zero, List.set_cons_succ])
          refine wpAnyH_take (i := 8) (oi := { dst := some 93, op := Op.unOp UnOp.not 4 (Operand.tmp 92), type := 4, pos := "law.go:172", after := #[{ on := 7, ground := Ground.data }], guard := none }) (v := ?_) rfl (by kernel_rfl) (by kernel_rfl) (by kernel_rfl) (fun _ _ _ h => h) (Or.inl ⟨by rfl, ?_⟩) (by assumption) ?_
          rotate_left
          · ((intro w hSw; (try dsimp only at hSw); go_simp); try with_reducible rfl)
          (try simp only [Act.put, List.setIfInBounds_toArray, List.set_cons_zero, List.set_cons_succ])
          refine wpAnyH_done (by kernel_rfl) ?_ _
          go_wp2
          go_roundw
          case rel => exact ⟨c + 1, by omega, by simp, y1.up hbX, hI.up hsz hbX, below_step hbw hbX, Nat.le_trans hsz hbX.size⟩
          case measure => simp [intOf]; omega
    · have t1 : decide ((c : Int) < B.cells) = false := by simp; omega
      go_wp2
      go_ret
      exact ⟨rfl, hbw⟩
end Go.Proofs.YtccapadoeocebaaDoor
