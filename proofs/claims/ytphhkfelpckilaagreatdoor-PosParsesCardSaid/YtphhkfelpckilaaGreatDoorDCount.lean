/-
  Man of the package game, Count of the package pos.
-/
import Derived.Test.YtphhkfelpckilaaGreatDoorDValid
import Derived.Test.YtphhkfelpckilaaGreatDoorPush
import Derived.OwnWalk
namespace Go.Proofs.YtphhkfelpckilaaGreatDoor
open Go Go.RowKit

def manK (x : Int) : Int := if 1 ≤ x ∧ x ≤ 12 then (x - 1) / 2 else -1
def manS (x : Int) : Int := if 1 ≤ x ∧ x ≤ 12 then (x - 1) % 2 else -1
theorem man_any (x : Int) (w : World) : Calls Tryz.prog 61 #[.int .i64 x] w fun e w' => e = .returned (.tuple #[.int .i64 (manK x), .int .i64 (manS x)]) ∧ w' = w := by
  by_cases h1 : x < 1
  · have t1 : decide (x < 1) = true := by simpa using h1
    have HK := Lib.hid (show manK x = -1 by unfold manK; rw [if_neg (by omega)])
    have HS := Lib.hid (show manS x = -1 by unfold manS; rw [if_neg (by omega)])
    clear h1
    go_enter Tryz.func61, Tryz.ntmps61
    go_wp2
    go_ret2
    exact ⟨by rw [HK.out, HS.out]; rfl, rfl⟩
  · have t1 : decide (x < 1) = false := by simpa using h1
    by_cases h2 : 12 < x
    · have t2 : decide (12 < x) = true := by simpa using h2
      have HK := Lib.hid (show manK x = -1 by unfold manK; rw [if_neg (by omega)])
      have HS := Lib.hid (show manS x = -1 by unfold manS; rw [if_neg (by omega)])
      clear h1 h2
      go_enter Tryz.func61, Tryz.ntmps61
      go_wp2
      go_ret2
      exact ⟨by rw [HK.out, HS.out]; rfl, rfl⟩
    · have t2 : decide (12 < x) = false := by simpa using h2
      have HK := Lib.hid (show manK x = (x - 1) / 2 by unfold manK; rw [if_pos (by omega)])
      have HS := Lib.hid (show manS x = (x - 1) % 2 by unfold manS; rw [if_pos (by omega)])
      have b1 : 1 ≤ x := by omega
      have b2 : x ≤ 12 := by omega
      clear h1 h2
      go_enter Tryz.func61, Tryz.ntmps61
      go_wp2
      go_ret2
      exact ⟨by rw [HK.out, HS.out]; rfl, rfl⟩

theorem info_int0 : (Tryz.prog.info? 3).map (fun i => (i.zero, i.size, i.bytes)) = some (some (.int .i64 0), 1, 8) := by kernel_rfl
/-- One cell more. -/
def cStep (side : Int) (acc : List Int) (x : Int) : List Int := if manS x = side ∧ 0 ≤ manK x ∧ manK x < acc.length then acc.set (manK x).toNat (acc[(manK x).toNat]?.getD 0 + 1) else acc
def countTo (nk : Nat) (side : Int) (l : List Int) : List Int := l.foldl (cStep side) (List.replicate nk 0)
theorem cStep_len (side : Int) (acc : List Int) (x : Int) : (cStep side acc x).length = acc.length := by unfold cStep; split <;> simp
theorem countTo_len (nk : Nat) (side : Int) (l : List Int) : (countTo nk side l).length = nk := by
  unfold countTo
  have : ∀ (l acc : List Int), (l.foldl (cStep side) acc).length = acc.length := by
    intro l
    induction l with
    | nil => intro acc; rfl
    | cons x l ih => intro acc; rw [List.foldl_cons, ih, cStep_len]
  rw [this, List.length_replicate]
theorem countTo_succ (nk : Nat) (side : Int) (l : List Int) (k : Nat) (h : k < l.length) : countTo nk side (l.take (k + 1)) = cStep side (countTo nk side (l.take k)) (l[k]?.getD 0) := by
  unfold countTo
  rw [List.take_add_one, List.foldl_append, List.getElem?_eq_getElem h]
  rfl
theorem cStep_bd (side : Int) (acc : List Int) (x : Int) (B : Int) (h : ∀ j : Nat, 0 ≤ acc[j]?.getD 0 ∧ acc[j]?.getD 0 ≤ B) : ∀ j : Nat, 0 ≤ (cStep side acc x)[j]?.getD 0 ∧ (cStep side acc x)[j]?.getD 0 ≤ B + 1 := by
  intro j
  unfold cStep
  have hj := h j
  split
  · rw [List.getElem?_set]
    have hk := h (manK x).toNat
    split
    · split
      · simp only [Option.getD_some]; omega
      · simp; omega
    · omega
  · omega
theorem countTo_bd (nk : Nat) (side : Int) (l : List Int) : ∀ k, k ≤ l.length → ∀ j : Nat, 0 ≤ (countTo nk side (l.take k))[j]?.getD 0 ∧ (countTo nk side (l.take k))[j]?.getD 0 ≤ k
  | 0, _, j => by
    unfold countTo
    simp only [List.take_zero, List.foldl_nil, List.getElem?_replicate]
    split <;> simp
  | k + 1, h, j => by
    rw [countTo_succ nk side l k (by omega)]
    have := cStep_bd side _ (l[k]?.getD 0) k (countTo_bd nk side l k (by omega)) j
    omega

set_option maxRecDepth 100000 in
set_option maxHeartbeats 2000000 in
theorem count_any (nk : Nat) (side : Int) (v0 vn vt vr vm vc vb ve : Value) (p : PosS) (ak b b0 b1 : Option Addr) (ck c c0 c1 N : Nat) (w : World) (hnk : nk ≤ 1000) (hp : PosFit p) (hN : N ≤ w.heap.size) (hP : PosIn N w b b0 b1 p) :
    Calls Tryz.prog 29 #[.agg #[v0, vn, vt, .slice ak nk ck, vr, vm, vc, vb, ve], PosV b b0 b1 c c0 c1 p, .int .i64 side] w fun e w' => ∃ v, e = .returned v ∧ OwnInts w.heap.size w' v (countTo nk side p.cells) ∧ Below w.heap.size w w' := by
  have hcl := hp.cells
  unfold maxLen at hcl
  obtain ⟨i0, hi, hz0, hz1, hz2⟩ := info_parts info_int0
  unfold PosV
  go_enter Tryz.func29, Tryz.ntmps29
  go_upto_region 1 with (fail)
  have hb0 : Below w.heap.size w ((w.alloc (.cells #[v0, vn, vt, .slice ak nk ck, vr, vm, vc, vb, ve] 41)).alloc (.cells #[.slice b p.cells.length c, .slice b0 p.h0.length c0, .slice b1 p.h1.length c1, .int .i64 p.rights, .int .i64 p.side] 32)) := below_alloc (below_alloc (Below.refl _ _) _) _
  have g3 : ((w.alloc (.cells #[v0, vn, vt, .slice ak nk ck, vr, vm, vc, vb, ve] 41)).alloc (.cells #[.slice b p.cells.length c, .slice b0 p.h0.length c0, .slice b1 p.h1.length c1, .int .i64 p.rights, .int .i64 p.side] 32)).cell? ⟨w.heap.size, 3, none⟩ = some (.slice ak nk ck) := cell_alloc_keep (cell_new_at _ _ _ _ _ _ rfl rfl) _
  have p0 : ((w.alloc (.cells #[v0, vn, vt, .slice ak nk ck, vr, vm, vc, vb, ve] 41)).alloc (.cells #[.slice b p.cells.length c, .slice b0 p.h0.length c0, .slice b1 p.h1.length c1, .int .i64 p.rights, .int .i64 p.side] 32)).cell? ⟨w.heap.size + 1, 0, none⟩ = some (.slice b p.cells.length c) := cell_new_at _ _ _ _ _ _ (by simp) rfl
  generalize (w.alloc (.cells #[v0, vn, vt, .slice ak nk ck, vr, vm, vc, vb, ve] 41)).alloc (.cells #[.slice b p.cells.length c, .slice b0 p.h0.length c0, .slice b1 p.h1.length c1, .int .i64 p.rights, .int .i64 p.side] 32) = w0 at *
  have hl0 := World.block_lt_of_cell? _ _ g3
  have hl1 := World.block_lt_of_cell? _ _ p0
  have hP0 := hP.up hN hb0
  have hw0 := hb0.size
  have hN0 := Nat.le_trans hN hb0.size
  go_wp2_with (at_make; go_loud (refine wpList_make_full _ rfl _ _ 29 rfl w.heap.size 3 i0 (.int .i64 0) 1 Tryz.underlying29 hi hz0 hz1 .i64 .i64 nk nk nk rfl rfl rfl rfl (by rw [hz2]; omega) (by unfold maxLen; omega) (by omega) ?_; intro w5 hown5 hgrow5; have p0' := (World.cell?_of_block (a := ⟨w.heap.size + 1, 0, none⟩) (hgrow5.block _ hl1 (by simp))).trans p0; have hl5 : w.heap.size + 1 < w5.heap.size := Nat.lt_of_lt_of_le hl1 hgrow5.size; clear p0 g3))
  have ho5 : OwnInts w.heap.size w5 (.slice (some ⟨w0.heap.size, 0, none⟩) nk nk) (countTo nk side (p.cells.take 0)) := by
    have e : countTo nk side (p.cells.take 0) = List.replicate nk 0 := rfl
    rw [e]
    show w5.ownsRow _ _ _ _ (List.replicate nk (0 : Int)).length ((List.replicate nk (0 : Int)).map (Value.int .i64))
    rw [List.length_replicate, List.map_replicate]
    have e2 : (madeCells (Value.int .i64 0).cells (nk * 1)).toList = List.replicate nk (.int .i64 0) := by rw [Nat.mul_one]; exact toList_madeCells_one _ _
    rw [← e2]
    exact hown5
  have hb5 : Below w.heap.size w w5 := hb0.trans ((Alters.of_grown hgrow5).below hw0 (fun k hk => by cases hk))
  have hP5 := hP.up hN hb5
  have hCI := hP5.cells
  clear hown5 hgrow5 hP0 hP5 hP p0'
  go_loopw [19] (fun i wr => ∃ k : Nat, k ≤ p.cells.length ∧ i = .int .i64 k ∧ OwnInts w.heap.size wr (.slice (some ⟨w0.heap.size, 0, none⟩) nk nk) (countTo nk side (p.cells.take k)) ∧ Alters (fun z => z = w0.heap.size) w5 wr) (fun i _ => p.cells.length - (intOf i).toNat)
  case atStart => exact ⟨0, Nat.zero_le _, rfl, ho5, Alters.refl _ _⟩
  case round =>
    clear ho5
    obtain ⟨k, hk, rfl, ho, ha⟩ := hrel
    by_cases hlt : k < p.cells.length
    · obtain ⟨bb, off, hab, hbN, hc5⟩ := hCI.at_ hlt
      subst hab
      have hc : wr.cell? ⟨bb, off + k, none⟩ = some (.int .i64 (p.cells[k]?.getD 0)) := (World.cell?_of_block (a := ⟨bb, off + k, none⟩) (ha.block bb (by have := hb5.size; omega) (by show ¬ bb = w0.heap.size; omega))).trans hc5
      have hsn := countTo_succ nk side p.cells k hlt
      have hlen := countTo_len nk side (p.cells.take k)
      have hbd := countTo_bd nk side p.cells k (by omega)
      generalize p.cells[k]?.getD 0 = x at hc hsn
      have HSN := Lib.hid hsn
      clear hsn hc5
      generalize countTo nk side (p.cells.take k) = acc at *
      have HM := Lib.hid (man_any x wr)
      have hmk : manK x = -1 ∨ (0 ≤ manK x ∧ manK x ≤ 5) := by unfold manK; split <;> omega
      clear hi hz0 hz1 hz2 hmk
      have hst : cStep side acc x = if manS x = side ∧ 0 ≤ manK x ∧ manK x < acc.length then acc.set (manK x).toNat (acc[(manK x).toNat]?.getD 0 + 1) else acc := rfl
      rw [hst, hlen] at HSN
      clear hst
      generalize manK x = mk at *
      generalize manS x = ms at *
      have hkl : (k : Int) < (p.cells.length : Int) := by omega
      by_cases h1 : ms = side
      · have t1 : (ms == side) = true := by simpa using h1
        have t1' : decide (ms = side) = true := by simpa using h1
        by_cases h2 : 0 ≤ mk
        · have t2 : decide (0 ≤ mk) = true := by simpa using h2
          by_cases h3 : mk < nk
          · obtain ⟨m, rfl⟩ := Int.eq_ofNat_of_zero_le h2
            have hm : m < acc.length := by omega
            obtain ⟨c1', f1'⟩ := ho.cellAt hm
            have hR := HSN.out
            rw [if_pos ⟨h1, h2, h3⟩, Int.toNat_natCast] at hR
            have HR := Lib.hid hR
            have hy := hbd m
            have HS := Lib.hid (ho.set m (acc[m]?.getD 0 + 1))
            have HA := Lib.hid (ha.trans (alters_cell _ w0.heap.size m (.int .i64 (acc[m]?.getD 0 + 1))))
            generalize acc[m]?.getD 0 = y at *
            have t3 : decide ((m : Int) < (nk : Int)) = true := by simp; omega
            obtain ⟨y1, y2⟩ := hy
            have hw0r : w0.heap.size < wr.heap.size := World.block_lt_of_cell? _ _ c1'
            clear ho ha hlen hbd hR h1 h2
            go_wp2_with (go_at_call 61; refine HM.out.mono ?_; rintro e w' ⟨rfl, rfl⟩)
            go_roundw
            case rel => exact ⟨k + 1, by omega, by simp, by rw [HR.out]; exact HS.out, HA.out⟩
            case measure => simp [intOf]; omega
          · have t3 : decide (mk < (nk : Int)) = false := by simp; omega
            have HR := Lib.hid (show countTo nk side (p.cells.take (k + 1)) = acc by rw [HSN.out, if_neg (by omega)])
            clear h1 h2 h3
            have HO := Lib.hid ho
            have HA := Lib.hid ha
            clear ho ha hlen hbd
            go_wp2_with (go_at_call 61; refine HM.out.mono ?_; rintro e w' ⟨rfl, rfl⟩)
            go_roundw
            case rel => exact ⟨k + 1, by omega, by simp, by rw [HR.out]; exact HO.out, HA.out⟩
            case measure => simp [intOf]; omega
        · have t2 : decide (0 ≤ mk) = false := by simpa using h2
          have HR := Lib.hid (show countTo nk side (p.cells.take (k + 1)) = acc by rw [HSN.out, if_neg (by omega)])
          clear h1 h2
          have HO := Lib.hid ho
          have HA := Lib.hid ha
          clear ho ha hlen hbd
          go_wp2_with (go_at_call 61; refine HM.out.mono ?_; rintro e w' ⟨rfl, rfl⟩)
          go_roundw
          case rel => exact ⟨k + 1, by omega, by simp, by rw [HR.out]; exact HO.out, HA.out⟩
          case measure => simp [intOf]; omega
      · have t1 : (ms == side) = false := by simpa using h1
        have t1' : decide (ms = side) = false := by simpa using h1
        have HR := Lib.hid (show countTo nk side (p.cells.take (k + 1)) = acc by rw [HSN.out, if_neg (by omega)])
        clear h1
        have HO := Lib.hid ho
        have HA := Lib.hid ha
        clear ho ha hlen hbd
        go_wp2_with (go_at_call 61; refine HM.out.mono ?_; rintro e w' ⟨rfl, rfl⟩)
        go_roundw
        case rel => exact ⟨k + 1, by omega, by simp, by rw [HR.out]; exact HO.out, HA.out⟩
        case measure => simp [intOf]; omega
    · obtain rfl : k = p.cells.length := by omega
      rw [List.take_of_length_le (Nat.le_refl _)] at ho
      have hb6 := hb5.trans (ha.below (n := w.heap.size) hb5.size (fun z hz => by have h : z = w0.heap.size := hz; omega))
      have HO := Lib.hid ho
      clear ho ha
      go_wp2
      go_ret
      exact ⟨_, rfl, HO.out, hb6⟩
end Go.Proofs.YtphhkfelpckilaaGreatDoor
