/-
  Valid of the package prog.
-/
import Derived.Test.YtidgdfjnjgonoaaGreatDoorPBase
namespace Go.Proofs.YtidgdfjnjgonoaaGreatDoor
open Go Go.RowKit

def limS (d k r : Int) (m : Int) : Int := if m = 0 then 1 else if m = 1 then d else if m = 2 then k else r
def okStep (d k r : Int) (x : Int × Int) : Bool := opB x.1 && (decide (0 ≤ x.2) && decide (x.2 < limS d k r (nameS x.1.toNat)))
def cntS (l : List (Int × Int)) (op : Int) : Int := ((l.filter fun x => decide (x.1 = op)).length : Nat)
def cntL (l : List (Int × Int)) : List Int := (List.range 11).map fun j => cntS l ((j : Nat) : Int)
def validP (l : List (Int × Int)) (d k r : Int) : Bool := decide (1 ≤ l.length) && (decide (l.length ≤ 8) && (l.all (okStep d k r) && (decide (cntS l 6 ≤ 2) && (decide (cntS l 7 ≤ 1) && decide (cntS l 8 ≤ 1)))))

theorem cntS_snoc (l : List (Int × Int)) (x : Int × Int) (op : Int) : cntS (l ++ [x]) op = cntS l op + if x.1 = op then 1 else 0 := by
  unfold cntS
  rw [List.filter_append]
  by_cases h : x.1 = op <;> simp [h]
theorem cntS_le (l : List (Int × Int)) (op : Int) : 0 ≤ cntS l op ∧ cntS l op ≤ l.length := by
  unfold cntS
  exact ⟨by omega, by have := List.length_filter_le (fun x : Int × Int => decide (x.1 = op)) l; omega⟩
theorem cntL_get (l : List (Int × Int)) {j : Nat} (hj : j < 11) : (cntL l)[j]?.getD 0 = cntS l j := by unfold cntL; simp [hj]
theorem cntL_snoc (l : List (Int × Int)) (o : Nat) (n : Int) (ho : o < 11) : cntL (l ++ [((o : Int), n)]) = (cntL l).set o (cntS l o + 1) := by
  apply List.ext_getElem
  · simp [cntL]
  · intro i h1 h2
    have hi : i < 11 := by simpa [cntL] using h1
    by_cases e : i = o
    · subst e
      rw [List.getElem_set_self]
      simp [cntL, cntS_snoc]
    · rw [List.getElem_set_ne (fun h => e h.symm)]
      have : ¬ (o : Int) = (i : Int) := fun h => e (Int.ofNat.inj h).symm
      simp [cntL, cntS_snoc, this]

/-- An array of numbers in a block of its own. -/
def ArrIn (B : Nat) (t : TypeId) (cs : List Int) (W : World) : Prop := W.heap[B]? = some (.cells (cs.map (Value.int .i64)).toArray t (0, 0))
theorem ArrIn.cell {B : Nat} {t : TypeId} {cs : List Int} {W : World} (h : ArrIn B t cs W) {j : Nat} (hj : j < cs.length) : W.cell? ⟨B, j, none⟩ = some (.int .i64 (cs[j]?.getD 0)) ∧ W.frozen? ⟨B, j, none⟩ = false := by
  unfold ArrIn at h
  refine ⟨?_, ?_⟩
  · unfold World.cell?; rw [h]; simp [hj]
  · unfold World.frozen?; rw [h]; simp
theorem ArrIn.below {B : Nat} {t : TypeId} {cs : List Int} {W W' : World} (h : ArrIn B t cs W) (hb : Below W.heap.size W W') : ArrIn B t cs W' :=
  (hb.block B (Array.getElem?_eq_some_iff.1 h).1).trans h
theorem ArrIn.set {B : Nat} {t : TypeId} {cs : List Int} {W : World} (h : ArrIn B t cs W) (j : Nat) (x : Int) : ArrIn B t (cs.set j x) (W.setCell ⟨B, j, none⟩ (.int .i64 x)) := by
  unfold ArrIn at h ⊢
  simp [World.setCell, Array.getElem?_modify, h, List.map_set]
theorem ArrIn.lt {B : Nat} {t : TypeId} {cs : List Int} {W : World} (h : ArrIn B t cs W) : B < W.heap.size := (Array.getElem?_eq_some_iff.1 h).1

theorem name_range (j : Nat) : 0 ≤ nameS j ∧ nameS j ≤ 3 := by
  unfold nameS namesL
  by_cases h : j < 11
  · have : j = 0 ∨ j = 1 ∨ j = 2 ∨ j = 3 ∨ j = 4 ∨ j = 5 ∨ j = 6 ∨ j = 7 ∨ j = 8 ∨ j = 9 ∨ j = 10 := by omega
    rcases this with rfl | rfl | rfl | rfl | rfl | rfl | rfl | rfl | rfl | rfl | rfl <;> decide
  · have : ([0, 1, 1, 0, 0, 0, 0, 1, 2, 3, 3] : List Int)[j]? = none := by simp; omega
    rw [this]; simp

set_option maxRecDepth 100000 in
set_option maxHeartbeats 4000000 in
theorem valid_any (l : List (Int × Int)) (a : Option Addr) (c : Nat) (d k r : Int) (N : Nat) (w : World) (hN : N ≤ w.heap.size) (hI : Prg N w a l) (hS : SignsIn w) :
    Calls Tryz.prog 13 #[.slice a l.length c, .int .i64 d, .int .i64 k, .int .i64 r] w fun e w' => e = .returned (.bool (validP l d k r)) ∧ Below w.heap.size w w' := by
  by_cases h1 : l.length < 1
  · have HO := Lib.hid (by simp [validP]; omega : validP l d k r = false)
    have t1 : decide ((l.length : Int) < 1) = true := by simp; omega
    go_enter Tryz.func13, Tryz.ntmps13
    go_wp2
    go_ret
    exact ⟨by rw [HO.out]; rfl, by (repeat (first | exact Below.refl _ _ | assumption | refine below_alloc ?_ _ | refine Below.drew ?_ | refine below_drewN_ ?_ _ | refine below_step ?_ (by assumption)))⟩
  have t1 : decide ((l.length : Int) < 1) = false := by simp; omega
  by_cases h2 : 8 < l.length
  · have HO := Lib.hid (by simp [validP]; omega : validP l d k r = false)
    have t2 : decide ((8 : Int) < (l.length : Int)) = true := by simp; omega
    go_enter Tryz.func13, Tryz.ntmps13
    go_wp2
    go_ret
    exact ⟨by rw [HO.out]; rfl, by (repeat (first | exact Below.refl _ _ | assumption | refine below_alloc ?_ _ | refine Below.drew ?_ | refine below_drewN_ ?_ _ | refine below_step ?_ (by assumption)))⟩
  have t2 : decide ((8 : Int) < (l.length : Int)) = false := by simp; omega
  have hl1 : 1 ≤ l.length := by omega
  have hl8 : l.length ≤ 8 := by omega
  clear h1 h2
  go_enter Tryz.func13, Tryz.ntmps13
  go_wp2_with fail
  obtain ⟨wl, hwl⟩ : ∃ wl, wl = w.alloc (.cells #[.int .i64 1, .int .i64 d, .int .i64 k, .int .i64 r] 59) := ⟨_, rfl⟩
  have sl : wl.heap.size = w.heap.size + 1 := by rw [hwl, World.size_alloc]
  have bl : Below w.heap.size w wl := by rw [hwl]; exact below_alloc (Below.refl _ _) _
  have z0 : wl.cell? ⟨w.heap.size, 0, none⟩ = some (.int .i64 1) := by rw [hwl]; exact cell_new_at _ _ _ _ _ _ rfl rfl
  have z1 : wl.cell? ⟨w.heap.size, 1, none⟩ = some (.int .i64 d) := by rw [hwl]; exact cell_new_at _ _ _ _ _ _ rfl rfl
  have z2 : wl.cell? ⟨w.heap.size, 2, none⟩ = some (.int .i64 k) := by rw [hwl]; exact cell_new_at _ _ _ _ _ _ rfl rfl
  have z3 : wl.cell? ⟨w.heap.size, 3, none⟩ = some (.int .i64 r) := by rw [hwl]; exact cell_new_at _ _ _ _ _ _ rfl rfl
  rw [← hwl]
  clear hwl
  have hlim : ∀ m : Nat, m ≤ 3 → wl.cell? ⟨w.heap.size, m, none⟩ = some (.int .i64 (limS d k r m)) := by
    intro m hm
    have : m = 0 ∨ m = 1 ∨ m = 2 ∨ m = 3 := by omega
    rcases this with rfl | rfl | rfl | rfl
    · exact z0
    · exact z1
    · exact z2
    · exact z3
  clear z0 z1 z2 z3
  obtain ⟨w1, hw1⟩ : ∃ w1, w1 = wl.alloc (.cells #[.int .i64 0, .int .i64 0, .int .i64 0, .int .i64 0, .int .i64 0, .int .i64 0, .int .i64 0, .int .i64 0, .int .i64 0, .int .i64 0, .int .i64 0] 60) := ⟨_, rfl⟩
  have s1 : w1.heap.size = w.heap.size + 1 + 1 := by rw [hw1, World.size_alloc, sl]
  have b1 : Below wl.heap.size wl w1 := by rw [hw1]; exact below_alloc (Below.refl _ _) _
  have hc1 : ArrIn (w.heap.size + 1) 60 (cntL []) w1 := by rw [hw1, ← sl]; exact World.alloc_heap_new _ _
  rw [← hw1]
  clear hw1
  replace hlim := fun m hm => cell_keep b1 (hlim m hm)
  have bw1 := below_step bl b1
  have HLIM := Lib.hid hlim
  have s1' : w.heap.size + 1 < w1.heap.size := by omega
  clear hlim b1 bl sl s1
  go_loopw [27] (fun i wr => ∃ q : Nat, q ≤ l.length ∧ i = .int .i64 q ∧ (∀ j, j < q → okStep d k r (l[j]?.getD (0, 0)) = true) ∧ ArrIn (w.heap.size + 1) 60 (cntL (l.take q)) wr ∧ Alters (fun b => b = w.heap.size + 1) w1 wr)
    (fun i _ => l.length - (intOf i).toNat)
  case atStart => exact ⟨0, Nat.zero_le _, rfl, fun j hj => absurd hj (Nat.not_lt_zero _), hc1, Alters.refl _ _⟩
  case round =>
    clear hc1
    obtain ⟨q, hq, rfl, hall, hcn, hal⟩ := hrel
    have hbw : Below w.heap.size w wr := bw1.trans (hal.below bw1.size (fun b hb => by omega))
    by_cases hlt : q < l.length
    · obtain ⟨b, off, hab, hbN, hop, hnn⟩ := (hI.up hN hbw).at_ hlt
      subst hab
      have htk : l.take (q + 1) = l.take q ++ [l[q]?.getD (0, 0)] := by rw [List.take_add_one]; simp [hlt]
      have hno : okStep d k r (l[q]?.getD (0, 0)) = false → validP l d k r = false := fun h => by
        have : l.all (okStep d k r) = false := by
          rw [List.all_eq_false]
          exact ⟨l[q], List.getElem_mem hlt, by simpa [hlt] using h⟩
        simp [validP, this]
      have hcl := cntS_le (l.take q)
      have hget := fun {j : Nat} (hj : j < 11) => cntL_get (l.take q) hj
      have hsn := cntL_snoc (l.take q)
      have hllen : (l.take q).length = q := by simp; omega
      have hcc := fun {j : Nat} (hj : j < (cntL (l.take q)).length) => hcn.cell hj
      generalize hxe : l[q]?.getD (0, 0) = x at hop hnn htk hno
      obtain ⟨op, n⟩ := x
      have HXE := Lib.hid hxe
      clear hxe
      dsimp only at hop hnn
      have HTK := Lib.hid htk
      have HNO := Lib.hid hno
      have HA := Lib.hid hall
      clear hall htk hno
      go_wp2_with fail
      have b5 : Below wr.heap.size wr (wr.alloc (.cells #[.int .i64 op, .int .i64 n] 41)) := below_alloc (Below.refl _ _) _
      have e0 : (wr.alloc (.cells #[.int .i64 op, .int .i64 n] 41)).cell? ⟨wr.heap.size, 0, none⟩ = some (.int .i64 op) := cell_new_at _ _ _ _ _ _ rfl rfl
      have e1 : (wr.alloc (.cells #[.int .i64 op, .int .i64 n] 41)).cell? ⟨wr.heap.size, 1, none⟩ = some (.int .i64 n) := cell_new_at _ _ _ _ _ _ rfl rfl
      have b5w := below_step hbw b5
      have hal5 : Alters (fun b => b = w.heap.size + 1) w1 (wr.alloc (.cells #[.int .i64 op, .int .i64 n] 41)) := hal.trans ((Alters.of_below b5 : Alters (fun _ => False) _ _).mono (fun _ _ h => h.elim))
      have hcn5 := hcn.below b5
      have hS5 := hS.up b5w
      have hcc5 := fun {j : Nat} (hj : j < (cntL (l.take q)).length) => hcn5.cell hj
      have HLIM5 := Lib.hid (fun m hm => (World.cell?_of_block (a := ⟨w.heap.size, m, none⟩) (hal5.block w.heap.size (by omega) (by omega))).trans (HLIM.out m hm))
      have hss : wr.heap.size < (wr.alloc (.cells #[.int .i64 op, .int .i64 n] 41)).heap.size := by rw [World.size_alloc]; omega
      have hsb : w.heap.size + 1 < wr.heap.size := by have := hal.size; omega
      generalize wr.alloc (.cells #[.int .i64 op, .int .i64 n] 41) = w5 at *
      generalize wr.heap.size = sb at *
      clear hcc hcn hal hbw b5 hop hnn
      cases hob : opB op with
      | false =>
        have HO := Lib.hid (HNO.out (by simp [okStep, hob]))
        have HOB := Lib.hid hob
        have hio : ∀ W, Calls Tryz.prog 29 #[.int .i64 op] W fun e w' => e = .returned (.bool false) ∧ w' = W := fun W => by
          have := isOp_any op W
          rwa [HOB.out] at this
        have HIO := Lib.hid hio
        clear hob hio hcl hget hsn hcc5 hS5
        go_quiet ((go_at_call 29; exact Calls.quiet_of_same (HIO.out _)))
        go_wp2
        go_ret
        exact ⟨by rw [HO.out]; rfl, by (repeat (first | exact Below.refl _ _ | assumption | refine below_alloc ?_ _ | refine Below.drew ?_ | refine below_drewN_ ?_ _ | refine below_step ?_ (by assumption)))⟩
      | true =>
        obtain ⟨j, rfl, h0, h11⟩ := opB_nat hob
        have HOB := Lib.hid hob
        have hio : ∀ W, Calls Tryz.prog 29 #[.int .i64 (j : Int)] W fun e w' => e = .returned (.bool true) ∧ w' = W := fun W => by
          have := isOp_any (j : Int) W
          rwa [HOB.out] at this
        have HIO := Lib.hid hio
        clear hob hio
        have h11' : (j : Int) < 11 := by omega
        obtain ⟨_, hnm⟩ := hS5 j h11
        have h0b : (0 : Nat) < w5.heap.size := World.block_lt_of_cell? w5 _ hnm
        have hrg := name_range j
        obtain ⟨mm, hmm⟩ := Int.eq_ofNat_of_zero_le hrg.1
        have hok : okStep d k r ((j : Int), n) = (decide (0 ≤ n) && decide (n < limS d k r mm)) := by
          unfold okStep
          rw [HOB.out, Bool.true_and]
          show (decide (0 ≤ n) && decide (n < limS d k r (nameS (j : Int).toNat))) = _
          rw [Int.toNat_natCast, hmm]
        rw [hmm] at hnm
        have hm3 : mm ≤ 3 := by omega
        have hm4 : (mm : Int) < 4 := by omega
        have hlm := HLIM5.out mm hm3
        have hg := hget h11
        obtain ⟨hcj, hfj⟩ := hcc5 (j := j) (by simp [cntL]; omega)
        rw [hg] at hcj
        have hcl6 := hcl (j : Int)
        have hset := hcn5.set j (cntS (l.take q) j + 1)
        rw [← hsn j n h11, ← HTK.out] at hset
        generalize limS d k r mm = lm at hok hlm
        generalize cntS (l.take q) j = cj at hcj hcl6 hset
        rw [hllen] at hcl6
        have HSET := Lib.hid hset
        have HOK := Lib.hid hok
        have HLL := Lib.hid hllen
        have HCN5 := Lib.hid hcn5
        clear hset hok hllen hcl hget hsn hcc5 hS5 hrg hmm hg hcn5
        by_cases hn0 : n < 0
        · have t3 : decide (n < 0) = true := by simpa using hn0
          have HO := Lib.hid (HNO.out (by rw [HOK.out]; simp; omega))
          go_quiet ((go_at_call 29; exact Calls.quiet_of_same (HIO.out _)))
          go_wp2
          go_ret
          exact ⟨by rw [HO.out]; rfl, by (repeat (first | exact Below.refl _ _ | assumption | refine below_alloc ?_ _ | refine Below.drew ?_ | refine below_drewN_ ?_ _ | refine below_step ?_ (by assumption)))⟩
        have t3 : decide (n < 0) = false := by simpa using hn0
        by_cases hn1 : lm ≤ n
        · have t4 : decide (lm ≤ n) = true := by simpa using hn1
          have HO := Lib.hid (HNO.out (by rw [HOK.out]; simp; omega))
          go_quiet ((go_at_call 29; exact Calls.quiet_of_same (HIO.out _)))
          go_wp2
          go_ret
          exact ⟨by rw [HO.out]; rfl, by (repeat (first | exact Below.refl _ _ | assumption | refine below_alloc ?_ _ | refine Below.drew ?_ | refine below_drewN_ ?_ _ | refine below_step ?_ (by assumption)))⟩
        · have t4 : decide (lm ≤ n) = false := by simpa using hn1
          have HOKT := Lib.hid (by rw [HOK.out]; simp; omega : okStep d k r ((j : Int), n) = true)
          have HAL := Lib.hid (fun m => (hal5.trans ((Alters.of_below (below_drewN_ (Below.refl _ w5) m) : Alters (fun _ => False) _ _).mono (fun _ _ h => h.elim))).trans (alters_cell (w5.drewN m) (w.heap.size + 1) j (.int .i64 (cj + 1))))
          have HX := Lib.hid HXE.out
          go_quiet ((go_at_call 29; exact Calls.quiet_of_same (HIO.out _)))
          go_wp2
          go_roundw
          case rel => exact ⟨q + 1, by omega, by simp, fun j' hj' => by
            by_cases e : j' = q
            · rw [e, HX.out]; exact HOKT.out
            · exact HA.out j' (by omega), HSET.out, HAL.out _⟩
          case measure => simp [intOf]; omega
    · obtain rfl : q = l.length := by omega
      have hall2 : l.all (okStep d k r) = true := by
        rw [List.all_eq_true]
        intro x hx
        obtain ⟨i, hi⟩ := List.getElem?_of_mem hx
        have := hall i (List.getElem?_eq_some_iff.1 hi).1
        rwa [hi] at this
      rw [List.take_length] at hcn
      obtain ⟨g6, _⟩ := hcn.cell (j := 6) (by simp [cntL])
      obtain ⟨g7, _⟩ := hcn.cell (j := 7) (by simp [cntL])
      obtain ⟨g8, _⟩ := hcn.cell (j := 8) (by simp [cntL])
      rw [cntL_get l (by omega)] at g6 g7 g8
      have hval : validP l d k r = (decide (cntS l 6 ≤ 2) && (decide (cntS l 7 ≤ 1) && decide (cntS l 8 ≤ 1))) := by
        unfold validP
        rw [hall2]
        have e1 : decide (1 ≤ l.length) = true := by simpa using hl1
        have e2 : decide (l.length ≤ 8) = true := by simpa using hl8
        rw [e1, e2]
        simp
      have k6 := cntS_le l 6
      have k7 := cntS_le l 7
      have k8 := cntS_le l 8
      change wr.cell? ⟨w.heap.size + 1, 6, none⟩ = some (.int .i64 (cntS l 6)) at g6
      change wr.cell? ⟨w.heap.size + 1, 7, none⟩ = some (.int .i64 (cntS l 7)) at g7
      change wr.cell? ⟨w.heap.size + 1, 8, none⟩ = some (.int .i64 (cntS l 8)) at g8
      generalize cntS l 6 = v6 at *
      generalize cntS l 7 = v7 at *
      generalize cntS l 8 = v8 at *
      have HV := Lib.hid hval
      clear hall2 hall hval hcn hal
      by_cases c6 : v6 ≤ 2
      · by_cases c7 : v7 ≤ 1
        · by_cases c8 : v8 ≤ 1
          · go_wp2
            go_ret
            exact ⟨by rw [HV.out]; simp [c6, c7, c8], hbw⟩
          · go_wp2
            go_ret
            exact ⟨by rw [HV.out]; simp [c6, c7, c8], hbw⟩
        · go_wp2
          go_ret
          exact ⟨by rw [HV.out]; simp; omega, hbw⟩
      · go_wp2
        go_ret
        exact ⟨by rw [HV.out]; simp; omega, hbw⟩
end Go.Proofs.YtidgdfjnjgonoaaGreatDoor
