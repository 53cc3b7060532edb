/-
  BoardGrids returns true.
-/
import Derived.Test.YtccapadoeocebaaDoorLawA
import Derived.Test.YtccapadoeocebaaDoorGridP
import Derived.BigQuiet
namespace Go.Proofs.YtccapadoeocebaaDoor
open Go Go.RowKit Go.Shelf

theorem run_max4 {P : Program} {w : World} (ts : Array TypeId) (t : TypeId) (k k' k'' k3 : IntKind) (x y z u : Int) : (Builtin.max_ ts t #[.int k x, .int k' y, .int k'' z, .int k3 u]).run P w = .ok (.int k (if u > (if z > (if y > x then y else x) then z else (if y > x then y else x)) then u else (if z > (if y > x then y else x) then z else (if y > x then y else x)))) w := by
  simp [Builtin.max_, Builtin.max2]

set_option maxRecDepth 100000 in
set_option maxHeartbeats 8000000 in
theorem grids_good (W H A : Nat) (h1 : 1 ≤ W) (h2 : 1 ≤ H) (h3 : W * H ≤ 64) (hA : A ≤ 255) (w : World) (hR : RaysIn w) :
    Calls Tryd.prog 9 #[.int .i8 W, .int .i8 H, .int .u8 A] w fun e w' => e = .returned (.bool true) ∧ Below w.heap.size w w' := by
  have hW64 : W ≤ 64 := Nat.le_trans (Nat.le_mul_of_pos_right W h2) h3
  have hH64 : H ≤ 64 := Nat.le_trans (Nat.le_mul_of_pos_left H h1) h3
  obtain ⟨n, hn⟩ : ∃ n, n = W * H := ⟨_, rfl⟩
  have hn1 : 1 ≤ n := by rw [hn]; exact Nat.mul_pos h1 h2
  have hn64 : n ≤ 64 := by omega
  have wm : IntKind.i64.wrap ((W : Int) * (H : Int)) = (n : Int) := by
    rw [hn, Int.natCast_mul]; exact IntWalk.i64_in _ (by rw [← Int.natCast_mul]; omega)
  have cw : IntKind.i64.wrap (W : Int) = (W : Int) := IntWalk.i64_in _ (by omega)
  have ch : IntKind.i64.wrap (H : Int) = (H : Int) := IntWalk.i64_in _ (by omega)
  have vB := grid_valid h1 h2 h3
  have hback := fun d c (hd : d < 8) (hc : c < n) => grid_back (c := c) h1 h2 h3 hd (hn ▸ hc)
  have hdist := fun a c (ha : a < n) (hc : c < n) => grid_dist (a := a) (c := c) h1 h2 h3 (hn ▸ ha) (hn ▸ hc)
  rw [← hn] at hdist
  have hturn := fun d (hd : d < 8) => grid_turn (W := W) (H := H) (d := d) hd
  have hcells : (gridS W H).cells = (n : Int) := by rw [hn]; rfl
  have hnext : (gridS W H).next.length = 8 := by simp [gridS]
  have hgrid := grid_any W H h1 h2 h3
  obtain ⟨hB, rowB, turnB⟩ := ok_of_valid vB
  have ht0 := hB.turn
  generalize gridS W H = B at *
  have hle1 : B.cells ≤ n := by omega
  have hle2 : (n : Int) ≤ B.cells := by omega
  have HC := Lib.hid hcells
  have HX := Lib.hid hnext
  have HBK := Lib.hid hback
  have HDS := Lib.hid hdist
  have HTN := Lib.hid hturn
  have HG := Lib.hid hgrid
  have VB := Lib.hid vB
  have HT := Lib.hid ht0
  have g1 : decide ((1 : Int) ≤ (W : Int)) = true := by simp; omega
  have g2 : decide ((1 : Int) ≤ (H : Int)) = true := by simp; omega
  have g3 : decide ((n : Int) ≤ 64) = true := by simp; omega
  have t0 : (B.cells != (n : Int)) = false := by simp; omega
  have t0' : (B.cells == (n : Int)) = true := by simp; omega
  have t1 : ((n : Int) != B.cells) = false := by simp; omega
  have t1' : ((n : Int) == B.cells) = true := by simp; omega
  have t2 : ((B.next.length : Int) != 8) = false := by simp; omega
  have t2' : ((B.next.length : Int) == 8) = true := by simp; omega
  clear hn hcells hnext hback hdist hturn hgrid vB ht0 h3
  go_enter Tryd.func9, Tryd.ntmps9
  go_wp2_with fail
  refine (sanity_any w hR).mono ?_
  rintro e w1 ⟨rfl, hb1⟩
  go_wp2_with fail
  refine (HG.out w1 (hR.up hb1)).mono ?_
  rintro e w2 ⟨an, cn, at_, ct, rfl, hH2, hb2⟩
  have y1 := InBox.new cn ct hH2
  have hb2' := below_alloc (below_step hb1 hb2) (.cells #[.int .i64 B.cells, .slice an B.next.length cn, .slice at_ B.turn.length ct] 31)
  obtain ⟨c0, c1, c2, hH⟩ := id y1
  clear hb1 hb2 hH2
  go_wp2_with fail
  refine (refValid_any B an at_ cn ct _ _ (Nat.le_refl _) hH).mono ?_
  rintro e w3 ⟨rfl, hb3⟩
  rw [VB.out]
  have y3 := y1.up hb3
  have hbw3 := below_step hb2' hb3
  clear y1 hb2' hb3 c0 c1 c2 hH
  obtain ⟨c0, c1, c2, hH⟩ := id y3
  generalize w2.heap.size = b1 at *
  go_wp2_with fail
  clear c0 c1 c2 hH
  go_loopw [11] (fun i wr => ∃ d : Nat, d ≤ 8 ∧ i = .int .i64 d ∧ InBox wr b1 an at_ cn ct B ∧ Below w.heap.size w wr)
    (fun i _ => 8 - (intOf i).toNat)
  case atStart => exact ⟨0, Nat.zero_le _, rfl, y3, hbw3⟩
  case round =>
    clear y3 hbw3
    obtain ⟨d, hd, rfl, y1, hbw⟩ := hrel
    obtain ⟨c0, c1, c2, hH⟩ := id y1
    by_cases hlt : d < 8
    · have dd : decide ((d : Int) < 8) = true := by simp; omega
      go_wp2_with fail
      clear c0 c1 c2 hH
      go_loopw [12] (fun i wr => ∃ c : Nat, c ≤ n ∧ i = .int .i64 c ∧ InBox wr b1 an at_ cn ct B ∧ Below w.heap.size w wr)
        (fun i _ => n - (intOf i).toNat)
      case atStart => exact ⟨0, by omega, rfl, y1, hbw⟩
      case round =>
        clear y1 hbw
        obtain ⟨c, hc, rfl, y1, hbw⟩ := hrel
        obtain ⟨c0, c1, c2, hH⟩ := id y1
        by_cases hcl : c < n
        · have dc : decide ((c : Int) < B.cells) = true := by simp; omega
          obtain ⟨b3, off3, hat, hb3, hct⟩ := hH.2.at_ (j := d) (by have := HT.out; have := HX.out; omega)
          subst hat
          rw [HTN.out d hlt] at hct
          have hdt : d < B.turn.length := by have := HT.out; have := HX.out; omega
          have hgt : gridTurn d = ((d : Int) + 4) % 8 := by unfold gridTurn; omega
          rw [hgt] at hct
          have hbk := HBK.out d c hlt hcl
          clear hgt
          go_wp2_with fail
          refine (to_any B hB an _ cn ct 0 d c _ wr (Nat.le_refl _) hH).mono ?_
          rintro e w4 ⟨rfl, hb4⟩
          generalize toS B 0 d c = to at hbk ⊢
          have y4 := y1.up hb4
          have hbw4 := below_step hbw hb4
          have hct4 := cell_keep hb4 hct
          clear c0 c1 c2 hH hct hb4
          obtain ⟨c0, c1, c2, hH⟩ := id y4
          by_cases hto : 0 ≤ to
          · have hto' : decide (0 ≤ to) = true := by simpa using hto
            have HBK2 := Lib.hid (hbk hto)
            clear hbk
            go_wp2_with fail
            refine (to_any B hB an _ cn ct 1 d to _ w4 (Nat.le_refl _) hH).mono ?_
            rintro e w5 ⟨rfl, hb5⟩
            rw [HBK2.out]
            go_wp2
            go_roundw
            case rel => exact ⟨c + 1, by omega, by simp, y4.up hb5, below_step hbw4 hb5⟩
            case measure => simp [intOf]; omega
          · have hto' : decide (0 ≤ to) = false := by simpa using hto
            clear hbk
            go_wp2
            go_roundw
            case rel => exact ⟨c + 1, by omega, by simp, y4, hbw4⟩
            case measure => simp [intOf]; omega
        · go_wp2
          go_roundw
          case rel => exact ⟨d + 1, by omega, by simp, y1, hbw⟩
          case measure => simp [intOf]; omega
    · obtain ⟨a, ha⟩ : ∃ a : Nat, a = A % n := ⟨_, rfl⟩
      have han : a < n := by rw [ha]; exact Nat.mod_lt _ (by omega)
      have r1 : (A : Int) % B.cells = (a : Int) := by rw [HC.out, ha]; exact (Int.natCast_emod _ _).symm
      have r2 : (A : Int).tmod B.cells = (a : Int) := by rw [← r1]; exact Int.tmod_eq_emod_of_nonneg (by omega)
      have r3 : (B.cells == 0) = false := by simp; omega
      have r4 : ¬ B.cells = 0 := by omega
      clear ha
      go_wp2_with fail
      refine (far_any B VB.out n HC.out an at_ cn ct _ _ (Nat.le_refl _) hH).mono ?_
      rintro e w4 ⟨G, vs, rfl, hrows, hb4, hG⟩
      have hF := hrows.rws
      have hfl := farS_len HC.out
      have hgd := farS_get HC.out han
      have HFL := Lib.hid hfl
      have hdl : (distS (stepsS B) n a).length = n := dist_len _ _ _
      have hds := fun c hc => HDS.out a c han hc
      have y4 := y1.up hb4
      have hbw4 := below_step hbw hb4
      clear hfl hb4 hrows hG c0 c1 c2 hH y1 hbw
      generalize (some (⟨G, 0, none⟩ : Addr)) = ad at hF ⊢
      obtain ⟨b, off, aj, cj, hab, hbN, hcr, hI⟩ := hF.at_ (j := a) (by rw [HFL.out]; exact han)
      subst hab
      rw [hgd] at hcr hI
      generalize distS (stepsS B) n a = D at hcr hI hdl hds hgd
      rw [hdl] at hcr
      have HDL := Lib.hid hdl
      have HD := Lib.hid hds
      obtain ⟨b2, off2, haj, hb2, _⟩ := hI.at_ (j := 0) (by omega)
      subst haj
      clear hdl hds hgd hF
      obtain ⟨c0, c1, c2, hH⟩ := id y4
      go_wp2_with fail
      go_quiet (fail)
      generalize hwq : w4.drewN _ = wq
      have hBq : Below w4.heap.size w4 wq := by rw [← hwq]; exact below_drewN_ (Below.refl _ _) _
      have y5 := y4.up hBq
      have hcr5 := cell_keep hBq hcr
      have hI5 := hI.up (Nat.le_refl _) hBq
      have hbw5 := below_step hbw4 hBq
      have hsz5 := hBq.size
      clear hwq c0 c1 c2 hH hcr hI y4 hbw4 hBq
      go_wp2_with fail
      go_loopw [16] (fun i wr => ∃ c : Nat, c ≤ n ∧ i = .int .i64 c ∧ InBox wr b1 an at_ cn ct B ∧ wr.cell? ⟨b, off + a, none⟩ = some (.slice (some ⟨b2, off2, none⟩) n cj) ∧ Ints w4.heap.size wr (some ⟨b2, off2, none⟩) D ∧ Below w.heap.size w wr ∧ w4.heap.size ≤ wr.heap.size)
        (fun i _ => n - (intOf i).toNat)
      case atStart => exact ⟨0, Nat.zero_le _, rfl, y5, hcr5, hI5, hbw5, hsz5⟩
      case round =>
        clear y5 hcr5 hI5 hbw5 hsz5
        obtain ⟨c, hc, rfl, y1, hcr, hI, hbw, hsz⟩ := hrel
        obtain ⟨c0, c1, c2, _⟩ := id y1
        by_cases hcn : c < n
        · have dc : decide ((c : Int) < B.cells) = true := by simp; omega
          obtain ⟨b', off', haj, _, hce⟩ := hI.at_ (j := c) (by rw [HDL.out]; exact hcn)
          cases haj
          rw [HD.out c hcn] at hce
          have hch : cheb W a c = max (gap (a % W) (c % W)) (gap (a / W) (c / W)) := rfl
          have f1 : (a : Int).tmod (W : Int) = ((a % W : Nat) : Int) := by rw [Int.natCast_emod]; exact Int.tmod_eq_emod_of_nonneg (by omega)
          have f2 : (a : Int).tdiv (W : Int) = ((a / W : Nat) : Int) := by rw [Int.natCast_ediv]; exact Int.tdiv_eq_ediv_of_nonneg (by omega)
          have f3 : (c : Int).tmod (W : Int) = ((c % W : Nat) : Int) := by rw [Int.natCast_emod]; exact Int.tmod_eq_emod_of_nonneg (by omega)
          have f4 : (c : Int).tdiv (W : Int) = ((c / W : Nat) : Int) := by rw [Int.natCast_ediv]; exact Int.tdiv_eq_ediv_of_nonneg (by omega)
          have q1 : a % W ≤ 64 := Nat.le_trans (Nat.mod_le _ _) (by omega)
          have q2 : a / W ≤ 64 := Nat.le_trans (Nat.div_le_self _ _) (by omega)
          have q3 : c % W ≤ 64 := Nat.le_trans (Nat.mod_le _ _) (by omega)
          have q4 : c / W ≤ 64 := Nat.le_trans (Nat.div_le_self _ _) (by omega)
          have e1 : (a : Int) % (W : Int) = ((a % W : Nat) : Int) := (Int.natCast_emod _ _).symm
          have e2 : (a : Int) / (W : Int) = ((a / W : Nat) : Int) := (Int.natCast_ediv _ _).symm
          have e3 : (c : Int) % (W : Int) = ((c % W : Nat) : Int) := (Int.natCast_emod _ _).symm
          have e4 : (c : Int) / (W : Int) = ((c / W : Nat) : Int) := (Int.natCast_ediv _ _).symm
          generalize a % W = ax at *
          generalize a / W = ay at *
          generalize c % W = cx at *
          generalize c / W = cy at *
          generalize cheb W a c = ce at *
          have s1 : IntKind.i64.wrap ((ax : Int) - (cx : Int)) = (ax : Int) - (cx : Int) := IntWalk.i64_in _ (by omega)
          have s2 : IntKind.i64.wrap ((ay : Int) - (cy : Int)) = (ay : Int) - (cy : Int) := IntWalk.i64_in _ (by omega)
          have s3 : IntKind.i64.wrap (ax : Int) = (ax : Int) := IntWalk.i64_in _ (by omega)
          have s4 : IntKind.i64.wrap (ay : Int) = (ay : Int) := IntWalk.i64_in _ (by omega)
          have s5 : IntKind.i64.wrap (cx : Int) = (cx : Int) := IntWalk.i64_in _ (by omega)
          have s6 : IntKind.i64.wrap (cy : Int) = (cy : Int) := IntWalk.i64_in _ (by omega)
          have u1 : ((W : Int) == 0) = false := by simp; omega
          have u2 : ¬ W = 0 := by omega
          have HCH := Lib.hid hch
          clear hch
          go_wp2_with fail
          go_quiet (fail)
          go_wp2_with fail
          go_quiet (fail)
          obtain ⟨x, hx⟩ : ∃ x : Int, x = (ax : Int) - (cx : Int) := ⟨_, rfl⟩
          obtain ⟨y, hy⟩ : ∃ y : Int, y = (ay : Int) - (cy : Int) := ⟨_, rfl⟩
          rw [← hx, ← hy]
          have hb1 : -64 ≤ x ∧ x ≤ 64 := by omega
          have hb2 : -64 ≤ y ∧ y ≤ 64 := by omega
          obtain ⟨hb11, hb12⟩ := hb1
          obtain ⟨hb21, hb22⟩ := hb2
          have v1 : IntKind.i64.wrap (-x) = -x := IntWalk.i64_in _ (by omega)
          have v2 : IntKind.i64.wrap (-y) = -y := IntWalk.i64_in _ (by omega)
          have HXX := Lib.hid hx
          have HYY := Lib.hid hy
          clear hx hy s1 s2 s3 s4 s5 s6 f1 f2 f3 f4 e1 e2 e3 e4
          have hval : (if -y > (if y > (if -x > x then -x else x) then y else (if -x > x then -x else x)) then -y else (if y > (if -x > x then -x else x) then y else (if -x > x then -x else x))) = (ce : Int) := by
            have h1 := HCH.out
            have h2 := HXX.out
            have h3 := HYY.out
            unfold gap at h1
            split <;> split <;> (try split) <;> omega
          have hmx : ∀ W0 : World, (Builtin.max_ #[3, 3, 3, 3] 3 #[.int .i64 x, .int .i64 (-x), .int .i64 y, .int .i64 (-y)]).run Tryd.prog W0 = .ok (.int .i64 (ce : Int)) W0 := fun W0 => by
            rw [run_max4, hval]
          clear hval
          go_wp2
          go_roundw
          case rel => exact ⟨c + 1, by omega, by simp, y1.up (below_drewN_ (Below.refl _ _) _), hcr, hI.up hsz (below_drewN_ (Below.refl _ _) _), below_drewN_ hbw _, hsz⟩
          case measure => simp [intOf]; omega
        · go_wp2
          go_ret
          exact ⟨rfl, hbw⟩

set_option maxRecDepth 100000 in
set_option maxHeartbeats 8000000 in
theorem grids_bad (W H A : Int) (hW : -128 ≤ W ∧ W ≤ 127) (hH : -128 ≤ H ∧ H ≤ 127) (h : W < 1 ∨ H < 1 ∨ 64 < W * H) (w : World) (hR : RaysIn w) :
    Calls Tryd.prog 9 #[.int .i8 W, .int .i8 H, .int .u8 A] w fun e w' => e = .returned (.bool true) ∧ Below w.heap.size w w' := by
  have HGB := Lib.hid (fun w1 => grid_bad W H (by omega) (by omega) h w1)
  obtain ⟨hW1, hW2⟩ := hW
  obtain ⟨hH1, hH2⟩ := hH
  have cw : IntKind.i64.wrap W = W := IntWalk.i64_in _ (by omega)
  have ch : IntKind.i64.wrap H = H := IntWalk.i64_in _ (by omega)
  by_cases h1 : W < 1
  · have g1 : decide (1 ≤ W) = false := by simp; omega
    clear h
    go_enter Tryd.func9, Tryd.ntmps9
    go_wp2_with fail
    refine (sanity_any w hR).mono ?_
    rintro e w1 ⟨rfl, hb1⟩
    go_wp2_with fail
    refine (HGB.out w1).mono ?_
    rintro e w2 ⟨rfl, hb2⟩
    have hb2' := below_alloc (below_step hb1 hb2) (.cells #[.int .i64 0, .slice none 0 0, .slice none 0 0] 31)
    clear hb1 hb2
    go_wp2_with fail
    refine (same_any (Brd.mk 0 [] []) (Brd.mk 0 [] []) none none none none 0 0 0 0 0 _ (Nat.zero_le _) (by simp) (by simp) (by simp) ⟨.inl rfl, .inl rfl⟩ ⟨.inl rfl, .inl rfl⟩).mono ?_
    rintro e w3 ⟨rfl, hb3⟩
    rw [sameS_refl]
    have hb3' := below_step hb2' hb3
    clear hb3
    go_wp2
    go_ret
    exact ⟨rfl, hb3'⟩
  have g1 : decide (1 ≤ W) = true := by simp; omega
  by_cases h2 : H < 1
  · have g2 : decide (1 ≤ H) = false := by simp; omega
    clear h h1
    go_enter Tryd.func9, Tryd.ntmps9
    go_wp2_with fail
    refine (sanity_any w hR).mono ?_
    rintro e w1 ⟨rfl, hb1⟩
    go_wp2_with fail
    refine (HGB.out w1).mono ?_
    rintro e w2 ⟨rfl, hb2⟩
    have hb2' := below_alloc (below_step hb1 hb2) (.cells #[.int .i64 0, .slice none 0 0, .slice none 0 0] 31)
    clear hb1 hb2
    go_wp2_with fail
    refine (same_any (Brd.mk 0 [] []) (Brd.mk 0 [] []) none none none none 0 0 0 0 0 _ (Nat.zero_le _) (by simp) (by simp) (by simp) ⟨.inl rfl, .inl rfl⟩ ⟨.inl rfl, .inl rfl⟩).mono ?_
    rintro e w3 ⟨rfl, hb3⟩
    rw [sameS_refl]
    have hb3' := below_step hb2' hb3
    clear hb3
    go_wp2
    go_ret
    exact ⟨rfl, hb3'⟩
  have g2 : decide (1 ≤ H) = true := by simp; omega
  have h3 : 64 < W * H := by omega
  obtain ⟨p, hp⟩ : ∃ p, p = W * H := ⟨_, rfl⟩
  have hp2 : p ≤ 16384 := by
    rw [hp]
    have e1 : W * H ≤ 127 * H := Int.mul_le_mul_of_nonneg_right hW2 (by omega)
    omega
  have wm : IntKind.i64.wrap (W * H) = p := by rw [← hp]; exact IntWalk.i64_in _ (by omega)
  have g3 : decide (p ≤ 64) = false := by simp; omega
  clear h h1 h2 h3 hp
  go_enter Tryd.func9, Tryd.ntmps9
  go_wp2_with fail
  refine (sanity_any w hR).mono ?_
  rintro e w1 ⟨rfl, hb1⟩
  go_wp2_with fail
  refine (HGB.out w1).mono ?_
  rintro e w2 ⟨rfl, hb2⟩
  have hb2' := below_alloc (below_step hb1 hb2) (.cells #[.int .i64 0, .slice none 0 0, .slice none 0 0] 31)
  clear hb1 hb2
  go_wp2_with fail
  refine (same_any (Brd.mk 0 [] []) (Brd.mk 0 [] []) none none none none 0 0 0 0 0 _ (Nat.zero_le _) (by simp) (by simp) (by simp) ⟨.inl rfl, .inl rfl⟩ ⟨.inl rfl, .inl rfl⟩).mono ?_
  rintro e w3 ⟨rfl, hb3⟩
  rw [sameS_refl]
  have hb3' := below_step hb2' hb3
  clear hb3
  go_wp2
  go_ret
  exact ⟨rfl, hb3'⟩

theorem grids_any (W H A : Int) (hW : -128 ≤ W ∧ W ≤ 127) (hH : -128 ≤ H ∧ H ≤ 127) (hA : 0 ≤ A ∧ A ≤ 255) (w : World) (hR : RaysIn w) :
    Calls Tryd.prog 9 #[.int .i8 W, .int .i8 H, .int .u8 A] w fun e w' => e = .returned (.bool true) ∧ Below w.heap.size w w' := by
  by_cases h : W < 1 ∨ H < 1 ∨ 64 < W * H
  · exact grids_bad W H A hW hH h w hR
  · obtain ⟨W', rfl⟩ := Int.eq_ofNat_of_zero_le (show 0 ≤ W by omega)
    obtain ⟨H', rfl⟩ := Int.eq_ofNat_of_zero_le (show 0 ≤ H by omega)
    obtain ⟨A', rfl⟩ := Int.eq_ofNat_of_zero_le hA.1
    have h3 : ¬ 64 < (W' : Int) * (H' : Int) := fun e => h (.inr (.inr e))
    rw [← Int.natCast_mul] at h3
    exact grids_good W' H' A' (by omega) (by omega) (by omega) (by omega) w hR
end Go.Proofs.YtccapadoeocebaaDoor
