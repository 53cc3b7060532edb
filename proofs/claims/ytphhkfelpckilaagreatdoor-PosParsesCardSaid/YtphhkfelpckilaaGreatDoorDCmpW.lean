/-
  CompactFunc walked.
-/
import Derived.Test.YtphhkfelpckilaaGreatDoorDClr
import Derived.IntWalk
namespace Go.Proofs.YtphhkfelpckilaaGreatDoor
open Go Go.RowKit Go.Lib Go.Sort

set_option maxRecDepth 100000 in
set_option maxHeartbeats 1000000 in
theorem eqf_any (x y : PosA) (N : Nat) (w : World) (hx : AOk N w x) (hy : AOk N w y) (hN : N ≤ w.heap.size) :
    Calls Tryz.prog 43 #[x.val, y.val] w fun e w' => e = .returned (.bool (decide (x.p = y.p))) ∧ Below w.heap.size w w' := by
  have hA : Below w.heap.size w ((w.alloc (.cells x.enc.toArray 32)).alloc (.cells y.enc.toArray 32)) := below_alloc (below_alloc (Below.refl _ _) _) _
  have HC := Lib.hid (compare_any x.p y.p x.a x.a0 x.a1 y.a y.a0 y.a1 x.c x.c0 x.c1 y.c y.c0 y.c1 N _ hx.fit (Nat.le_trans hN hA.size) (hx.up hN hA).lies (hy.up hN hA).lies)
  have hd : decide (x.p = y.p) = decide (cmpP x.p y.p = 0) := by rw [Bool.eq_iff_iff]; simp [cmpP_ok.eq0]
  rw [hd]
  clear hd
  unfold PosA.enc at HC
  unfold PosA.enc at hA
  unfold PosA.val
  unfold PosV at HC ⊢
  go_enter Tryz.func43, Tryz.ntmps43
  go_wp2_with fail
  refine HC.out.mono ?_
  rintro e w' ⟨rfl, hb⟩
  have hbE := below_step hA hb
  generalize hze : cmpP x.p y.p = z
  have HZE := Lib.hid hze
  clear hze
  have hz : (z == 0) = decide (z = 0) := by rw [Bool.eq_iff_iff]; simp
  clear hA hb HC
  go_wp2
  go_ret
  exact ⟨by rw [HZE.out, ← hz]; rfl, hbE⟩

/-- Two elements of a list, while nothing that was there changes. -/
structure Two5 (w : World) (g oi oj : Nat) (x y : PosA) (W : World) : Prop where
  b : Below w.heap.size w W
  x0 : W.cell? ⟨g, oi, none⟩ = some (.slice x.a x.p.cells.length x.c)
  x1 : W.cell? ⟨g, oi + 1, none⟩ = some (.slice x.a0 x.p.h0.length x.c0)
  x2 : W.cell? ⟨g, oi + 2, none⟩ = some (.slice x.a1 x.p.h1.length x.c1)
  x3 : W.cell? ⟨g, oi + 3, none⟩ = some (.int .i64 x.p.rights)
  x4 : W.cell? ⟨g, oi + 4, none⟩ = some (.int .i64 x.p.side)
  y0 : W.cell? ⟨g, oj, none⟩ = some (.slice y.a y.p.cells.length y.c)
  y1 : W.cell? ⟨g, oj + 1, none⟩ = some (.slice y.a0 y.p.h0.length y.c0)
  y2 : W.cell? ⟨g, oj + 2, none⟩ = some (.slice y.a1 y.p.h1.length y.c1)
  y3 : W.cell? ⟨g, oj + 3, none⟩ = some (.int .i64 y.p.rights)
  y4 : W.cell? ⟨g, oj + 4, none⟩ = some (.int .i64 y.p.side)
theorem Two5.up {w W W' : World} {g oi oj : Nat} {x y : PosA} (h : Two5 w g oi oj x y W) (hb : Below W.heap.size W W') : Two5 w g oi oj x y W' :=
  ⟨below_step h.b hb, cell_keep hb h.x0, cell_keep hb h.x1, cell_keep hb h.x2, cell_keep hb h.x3, cell_keep hb h.x4, cell_keep hb h.y0, cell_keep hb h.y1, cell_keep hb h.y2, cell_keep hb h.y3, cell_keep hb h.y4⟩
theorem Two5.of {n : Nat} {w : World} {g cap i j : Nat} {M : List PosA} {x y : PosA} (h : OwnPs n w (.slice (some ⟨g, 0, none⟩) M.length cap) M) (hi : M[i]? = some x) (hj : M[j]? = some y) : Two5 w g (i * 5) (j * 5) x y w := by
  obtain ⟨hi1, hi2⟩ := List.getElem?_eq_some_iff.1 hi
  obtain ⟨hj1, hj2⟩ := List.getElem?_eq_some_iff.1 hj
  have cx := fun c (hc : c < 5) => h.cell hi1 hc
  have cy := fun c (hc : c < 5) => h.cell hj1 hc
  rw [hi2] at cx
  rw [hj2] at cy
  exact ⟨Below.refl _ _, cx 0 (by omega), cx 1 (by omega), cx 2 (by omega), cx 3 (by omega), cx 4 (by omega), cy 0 (by omega), cy 1 (by omega), cy 2 (by omega), cy 3 (by omega), cy 4 (by omega)⟩

set_option maxRecDepth 100000 in
set_option maxHeartbeats 4000000 in
theorem compactF_any (L : List PosA) (g cap n N : Nat) (w : World) (hN : N ≤ w.heap.size) (hg : N ≤ g) (hOK : ∀ x ∈ L, AOk N w x) (ho : OwnPs n w (.slice (some ⟨g, 0, none⟩) L.length cap) L) (hsz : L.length < 4611686018427387904) :
    Calls Tryz.prog 42 #[.slice (some ⟨g, 0, none⟩) L.length cap, .func (.func 43) #[] #[]] w fun e w' =>
      e = .returned (.slice (some ⟨g, 0, none⟩) (ddA (nth L) L.length).length cap) ∧ OwnPs n w' (.slice (some ⟨g, 0, none⟩) (ddA (nth L) L.length).length cap) (ddA (nth L) L.length) ∧ Alters (fun k => k = g) w w' := by
  have HO := Lib.hid ho
  have HOK := Lib.hid hOK
  clear ho hOK
  by_cases h2 : L.length < 2
  · have t2 : decide ((L.length : Int) < 2) = true := by simp; omega
    have hD : ddA (nth L) L.length = L := ddA_none (fun j h1 hj => by omega)
    rw [hD]
    go_enter Tryz.func42, Tryz.ntmps42
    go_wp2
    go_ret
    exact ⟨rfl, HO.out, Alters.refl _ _⟩
  · have t2 : decide ((L.length : Int) < 2) = false := by simp; omega
    go_enter Tryz.func42, Tryz.ntmps42
    go_wp2
    go_loopw [5] (fun i wr => ∃ k : Nat, 1 ≤ k ∧ k ≤ L.length ∧ i = .int .i64 k ∧ Hid (∀ j, 1 ≤ j → j < k → (nth L j).p ≠ (nth L (j - 1)).p) ∧ Below w.heap.size w wr)
      (fun i _ => L.length - (intOf i).toNat)
    case atStart => exact ⟨1, Nat.le_refl _, by omega, rfl, Lib.hid (fun j h1 h2 => by omega), Below.refl _ _⟩
    case round =>
      obtain ⟨k, hk1, hk, rfl, hall, hb⟩ := hrel
      by_cases hlt : k < L.length
      · obtain ⟨m, rfl⟩ : ∃ m, k = m + 1 := ⟨k - 1, by omega⟩
        have hor := HO.out.up hb
        have hx : L[m + 1]? = some (nth L (m + 1)) := by rw [nth_get hlt]; exact List.getElem?_eq_getElem hlt
        have hy : L[m]? = some (nth L m) := by rw [nth_get (by omega)]; exact List.getElem?_eq_getElem _
        have hxo := (HOK.out (nth L (m + 1)) (by rw [nth_get hlt]; exact List.getElem_mem _)).up hN hb
        have hyo := (HOK.out (nth L m) (by rw [nth_get (by omega)]; exact List.getElem_mem _)).up hN hb
        have hT := Two5.of hor hx hy
        have hsz2 := hb.size
        have HEQ := Lib.hid (fun W (h : Below wr.heap.size wr W) => eqf_any (nth L (m + 1)) (nth L m) N W (hxo.up (Nat.le_trans hN hsz2) h) (hyo.up (Nat.le_trans hN hsz2) h) (Nat.le_trans hN (Nat.le_trans hsz2 h.size)))
        have HST := Lib.hid (fun he => midA_start hlt hall.out he)
        have HALL := hall
        have HOR := Lib.hid hor
        obtain ⟨x, hxe⟩ : ∃ x, x = nth L (m + 1) := ⟨_, rfl⟩
        obtain ⟨y, hye⟩ : ∃ y, y = nth L m := ⟨_, rfl⟩
        rw [← hxe, ← hye] at hT HEQ HST
        have HXE := Lib.hid hxe
        have HYE := Lib.hid hye
        have HB := Lib.hid hb
        clear hall hor hx hy hxo hyo hxe hye hb
        have hi1 : (((m + 1 : Nat) : Int) - 1) = (m : Int) := by simp
        have hi2 : IntKind.i64.wrap (((m + 1 : Nat) : Int) - 1) = (m : Int) := by rw [hi1]; exact IntWalk.i64_in _ (by omega)
        have hq0 : (0 : Int) ≤ (m : Int) + 1 := by omega
        have hq1 : m < L.length := by omega
        have t4 : decide (((m + 1 : Nat) : Int) < (L.length : Int)) = true := by simp; omega
        have hi3 := IntWalk.i64_in (m : Int) (by omega)
        have hi4 := IntWalk.i64_in ((m : Int) + 1) (by omega)
        have hi5 := IntWalk.i64_in ((m : Int) + 1 + 1) (by omega)
        go_upto_region 6 with (fail)
        unfold PosA.val at HEQ
        unfold PosV at HEQ
        refine wp_region_quiet (C := Two5 wr g ((m + 1) * 5) (m * 5) x y) (by kernel_rfl) (by kernel_rfl) (hT.up (Below.refl _ _).drew) ?_
        dsimp only
        iterate 10
          refine wpQuiet_val (v := ?_) (by rfl) ?_ ?_
          rotate_left
          · ((intro W hW; (try cases hW); go_simp); try with_reducible rfl)
          (try simp only [Act.put, List.setIfInBounds_toArray, List.set_cons_zero, List.set_cons_succ])
        refine wpQuiet_val (v := .bool (decide (x.p = y.p))) (by rfl) (fun W hW => ?_) ?_
        · go_simp
          exact (HEQ.out W hW.b).mono fun e w' ⟨he, hb⟩ => ⟨he, hW.up hb⟩
        (try simp only [Act.put, List.setIfInBounds_toArray, List.set_cons_zero, List.set_cons_succ])
        refine wpQuiet_nil (fun W hW => ?_)
        have HBW := Lib.hid (below_step HB.out hW.b)
        have HORW := Lib.hid (HOR.out.up hW.b)
        clear hT hW HOR HB HEQ hsz2
        by_cases hxy : x.p = y.p
        · have t3 : decide (x.p = y.p) = true := by simpa using hxy
          have hM := HST.out hxy
          rw [t3]
          clear t3 hxy HST
          have hcl := own_cap HORW.out
          have hcap : ¬ cap = m + 1 := by omega
          have HM := Lib.hid hM
          clear hM HALL HXE HYE
          go_upto_region 8 with (fail)
          go_wp2
          clear hi1 hi2 hi3 hi4 hi5 t4 hq0 hq1
          have HAW : Hid (Alters (fun k => k = g) w W) := Lib.hid (Alters.of_below HBW.out)
          go_loopw [5, 7] (fun i5 i7 wr => ∃ q : Nat, m + 2 + q ≤ L.length ∧ i7 = .int .i64 ((q + 1 : Nat) : Int) ∧ i5 = .int .i64 (ddA (nth L) (m + 2 + q)).length ∧ (ddA (nth L) (m + 2 + q)).length ≤ m + 1 + q ∧ Hid (OwnPs n wr (.slice (some ⟨g, 0, none⟩) L.length cap) (midA L (m + 2 + q))) ∧ Hid (Alters (fun k => k = g) w wr))
            (fun _ i7 _ => L.length - (m + 1) - (intOf i7).toNat)
          case atStart => exact ⟨0, by omega, by simp, by simp [HM.out.2], by rw [Nat.add_zero, HM.out.2]; omega, Lib.hid (by rw [Nat.add_zero, HM.out.1]; exact HORW.out), HAW⟩
          case round =>
            obtain ⟨q, hq, rfl, rfl, hD, hown, hal⟩ := hrel
            have hml := midA_len L hq
            have howL := hown.out
            rw [← hml] at howL
            by_cases hlt2 : m + 2 + q < L.length
            · obtain ⟨x, hxe⟩ : ∃ x, x = nth L (m + 2 + q) := ⟨_, rfl⟩
              obtain ⟨y, hye⟩ : ∃ y, y = nth L (m + 1 + q) := ⟨_, rfl⟩
              have hx : (midA L (m + 2 + q))[m + 2 + q]? = some x := by rw [hxe]; exact midA_hi L (by omega) hlt2
              have hy : (midA L (m + 2 + q))[m + 1 + q]? = some y := by rw [hye]; exact midA_hi L (by omega) (by omega)
              have hT := Two5.of howL hx hy
              have e1 : (m + 2 + q) * 5 = (m + 1) * 5 + (q + 1) * 5 := by omega
              have e2 : (m + 1 + q) * 5 = (m + 1) * 5 + q * 5 := by omega
              rw [e1, e2] at hT
              have hsz2 := hal.out.size
              have hxo : AOk N wr x := (HOK.out x (by rw [hxe, nth_get hlt2]; exact List.getElem_mem _)).alters hal.out hN (fun k hk e => by have e : k = g := e; omega)
              have hyo : AOk N wr y := (HOK.out y (by rw [hye, nth_get (show m + 1 + q < L.length by omega)]; exact List.getElem_mem _)).alters hal.out hN (fun k hk e => by have e : k = g := e; omega)
              have HEQ := Lib.hid (fun W (h : Below wr.heap.size wr W) => eqf_any x y N W (hxo.up (Nat.le_trans hN hsz2) h) (hyo.up (Nat.le_trans hN hsz2) h) (Nat.le_trans hN (Nat.le_trans hsz2 h.size)))
              have HSK := Lib.hid (show x.p = y.p → ddA (nth L) (m + 2 + (q + 1)) = ddA (nth L) (m + 2 + q) from fun he => by
                have := ddA_skip (nth L) (m + 1 + q) (by rw [show m + 1 + q + 1 = m + 2 + q by omega, ← hxe, ← hye]; exact he)
                rw [show m + 2 + (q + 1) = m + 1 + q + 2 by omega, this, show m + 1 + q + 1 = m + 2 + q by omega])
              have HKP := Lib.hid (show ¬ x.p = y.p → ddA (nth L) (m + 2 + (q + 1)) = ddA (nth L) (m + 2 + q) ++ [x] ∧ midA L (m + 2 + (q + 1)) = (midA L (m + 2 + q)).set (ddA (nth L) (m + 2 + q)).length x from fun he => by
                have hne : ¬ (nth L (m + 1 + q + 1)).p = (nth L (m + 1 + q)).p := by rw [show m + 1 + q + 1 = m + 2 + q by omega, ← hxe, ← hye]; exact he
                have h1 := ddA_keep (nth L) (m + 1 + q) hne
                have h2 := midA_set L (m + 1 + q) (by rw [show m + 1 + q + 1 = m + 2 + q by omega]; omega) hne
                rw [show m + 1 + q + 1 = m + 2 + q by omega, ← hxe] at h1 h2
                rw [show m + 2 + (q + 1) = m + 1 + q + 2 by omega]
                exact ⟨h1, h2⟩)
              have HL := Lib.hid howL
              have HA := Lib.hid hal.out
              have hml2 := Lib.hid hml
              clear howL hal hml hown hx hy hxo hyo hxe hye e1 e2
              generalize hDe : (ddA (nth L) (m + 2 + q)).length = D at *
              have hi2 : IntKind.i64.wrap ((q : Int) + 1 - 1) = (q : Int) := by rw [Int.add_sub_cancel]; exact IntWalk.i64_in _ (by omega)
              have hi3 := IntWalk.i64_in (q : Int) (by omega)
              have hi4 := IntWalk.i64_in ((q : Int) + 1) (by omega)
              have hi5 := IntWalk.i64_in ((q : Int) + 1 + 1) (by omega)
              have hi6 := IntWalk.i64_in ((D : Int) + 1) (by omega)
              have hq0 : (0 : Int) ≤ (q : Int) + 1 := by omega
              have hq1 : q < L.length - (m + 1) := by omega
              have hq2 : q + 1 < L.length - (m + 1) := by omega
              have hq3 : D < L.length := by omega
              go_upto_region 11 with (fail)
              unfold PosA.val at HEQ
              unfold PosV at HEQ
              have HDE := Lib.hid hDe
              clear hDe
              refine wp_region_quiet (C := Two5 wr g ((m + 1) * 5 + (q + 1) * 5) ((m + 1) * 5 + q * 5) x y) (by kernel_rfl) (by kernel_rfl) (hT.up (Below.refl _ _).drew) ?_
              dsimp only
              iterate 10
                refine wpQuiet_val (v := ?_) (by rfl) ?_ ?_
                rotate_left
                · ((intro W hW; (try cases hW); go_simp); try with_reducible rfl)
                (try simp only [Act.put, List.setIfInBounds_toArray, List.set_cons_zero, List.set_cons_succ])
              refine wpQuiet_val (v := .bool (decide (x.p = y.p))) (by rfl) (fun W hW => ?_) ?_
              · go_simp
                exact (HEQ.out W hW.b).mono fun e w' ⟨he, hb⟩ => ⟨he, hW.up hb⟩
              (try simp only [Act.put, List.setIfInBounds_toArray, List.set_cons_zero, List.set_cons_succ])
              refine wpQuiet_val (v := ?_) (by rfl) ?_ ?_
              rotate_left
              · ((intro W hW; (try cases hW); go_simp); try with_reducible rfl)
              (try simp only [Act.put, List.setIfInBounds_toArray, List.set_cons_zero, List.set_cons_succ])
              refine wpQuiet_nil (fun W hW => ?_)
              have HLW := Lib.hid (HL.out.up hW.b)
              have HAW2 := Lib.hid (HA.out.trans (Alters.of_below (S := fun k => k = g) hW.b))
              have x0 := hW.x0
              have x1 := hW.x1
              have x2 := hW.x2
              have x3 := hW.x3
              have x4 := hW.x4
              have hlx := World.block_lt_of_cell? _ _ x0
              clear hT hW HL HEQ hsz2 HA
              by_cases hxy : x.p = y.p
              · have t3 : decide (x.p = y.p) = true := by simpa using hxy
                have hM := HSK.out hxy
                have HS := Lib.hid hM
                have HS2 := Lib.hid (show midA L (m + 2 + (q + 1)) = midA L (m + 2 + q) from by unfold midA; rw [hM])
                rw [t3]
                clear t3 hxy HSK HKP hM x0 x1 x2 x3 x4
                go_wp2
                go_roundw
                case rel => exact ⟨q + 1, by omega, by simp, by rw [HS.out, HDE.out], by rw [HS.out, HDE.out]; omega, Lib.hid (by rw [HS2.out]; have h8 := HLW.out; rw [hml2.out] at h8; exact h8), HAW2⟩
                case measure => simp [intOf]; omega
              · have t3 : decide (x.p = y.p) = false := by simpa using hxy
                rw [t3]
                have HS := Lib.hid (HKP.out hxy)
                clear t3 hxy HSK HKP
                have hDl : D < (midA L (m + 2 + q)).length := by rw [hml2.out]; exact hq3
                have z0 := HLW.out.cell hDl (c := 0) (by omega)
                have z1 := HLW.out.cell hDl (c := 1) (by omega)
                have z2 := HLW.out.cell hDl (c := 2) (by omega)
                have z3 := HLW.out.cell hDl (c := 3) (by omega)
                have z4 := HLW.out.cell hDl (c := 4) (by omega)
                have f0 := HLW.out.frozen (D * 5)
                have f1 := HLW.out.frozen (D * 5 + 1)
                have f2 := HLW.out.frozen (D * 5 + 2)
                have f3 := HLW.out.frozen (D * 5 + 3)
                have f4 := HLW.out.frozen (D * 5 + 4)
                have HN := Lib.hid (HLW.out.set hDl x)
                have HAN := Lib.hid (HAW2.out.trans (setAt_alters W g D x))
                unfold setAt at HN HAN
                generalize (midA L (m + 2 + q))[D] = old at *
                simp only [PosA.enc, List.getElem?_cons_zero, List.getElem?_cons_succ, Nat.add_zero] at z0 z1 z2 z3 z4
                clear HLW HAW2 hDl
                go_wp2
                go_roundw
                case rel => exact ⟨q + 1, by omega, by simp, by rw [HS.out.1, List.length_append, HDE.out]; simp, by rw [HS.out.1, List.length_append, HDE.out]; simp; omega, Lib.hid (by rw [HS.out.2]; have h8 := HN.out; rw [hml2.out] at h8; exact h8), HAN⟩
                case measure => simp [intOf]; omega
            · have hqe : m + 2 + q = L.length := by omega
              rw [hqe] at howL hml hD
              generalize hDe : (ddA (nth L) (m + 2 + q)).length = D at *
              rw [hqe] at hDe
              have hDl : D ≤ (midA L L.length).length := by rw [hml, ← hDe]; exact ddA_len _ _
              have hD2 : D < L.length := by rw [hDe] at hD; omega
              obtain ⟨w', hcl2, hown2, hal2⟩ := clear_any (midA L L.length) n g cap D (cap - D) wr howL hDl
              rw [hml] at hcl2
              have HF : Hid (OwnPs n w' (.slice (some ⟨g, 0, none⟩) D cap) (ddA (nth L) L.length)) := Lib.hid (by have h8 := hown2; rw [← hDe, midA_take] at h8; rw [← hDe]; exact h8)
              have HAF := Lib.hid (hal.out.trans hal2)
              have HDE := Lib.hid hDe
              have hcap2 : ¬ cap = D := by omega
              have hDL : D ≤ L.length := by omega
              have hDc : D ≤ cap := by omega
              clear howL hml hD hown hal hDl hown2 hal2 hDe
              go_wp2
              go_ret
              rw [HDE.out]
              exact ⟨rfl, HF.out, HAF.out⟩
        · have t3 : decide (x.p = y.p) = false := by simpa using hxy
          rw [t3]
          have HALL2 := Lib.hid (show ∀ j, 1 ≤ j → j < m + 1 + 1 → (nth L j).p ≠ (nth L (j - 1)).p from fun j h1 h2 => by
            by_cases e : j = m + 1
            · subst e; rw [← HXE.out, Nat.add_sub_cancel, ← HYE.out]; exact hxy
            · exact HALL.out j h1 (by omega))
          clear t3 hxy HST
          go_wp2
          go_roundw
          case rel => exact ⟨m + 1 + 1, by omega, by omega, by simp, HALL2, HBW.out⟩
          case measure => simp [intOf]; omega
      · obtain rfl : k = L.length := by omega
        have HD := Lib.hid (ddA_none hall.out)
        go_wp2
        go_ret
        rw [HD.out]
        exact ⟨rfl, HO.out.up hb, Alters.of_below hb⟩
end Go.Proofs.YtphhkfelpckilaaGreatDoor
