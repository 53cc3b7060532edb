/-
  Positions as values (in seats without Compare of the package pos); Ints of the reference.
-/
import Derived.Test.YtepbmgbomdekaaaOrdM
import Derived.Test.YtepbmgbomdekaaaLib0
import Derived.StillTailTactics
import Derived.Sort.Grow
import Derived.Deep.QuietTactic
import Derived.WalkKit
import Derived.Deep.DeepCutAuto
namespace Go.Proofs.Ytepbmgbomdekaaa
open Go Go.RowKit Go.Sort

theorem cmpL_step (l m : List Int) (k : Nat) (h1 : k < l.length) (h2 : k < m.length) :
    cmpL (l.drop k) (m.drop k) = orI (cmpI (l[k]?.getD 0) (m[k]?.getD 0)) (cmpL (l.drop (k + 1)) (m.drop (k + 1))) := by
  rw [List.drop_eq_getElem_cons h1, List.drop_eq_getElem_cons h2, List.getElem?_eq_getElem h1, List.getElem?_eq_getElem h2]
  rfl
theorem cmpL_left (l m : List Int) (k : Nat) (h1 : k < l.length) (h2 : m.length ≤ k) : cmpL (l.drop k) (m.drop k) = 1 := by
  rw [List.drop_eq_getElem_cons h1, List.drop_eq_nil_of_le h2]
  rfl
theorem cmpL_end (l m : List Int) : cmpL (l.drop l.length) (m.drop l.length) = if l.length < m.length then -1 else 0 := by
  rw [List.drop_eq_nil_of_le (Nat.le_refl _)]
  by_cases h : l.length < m.length
  · rw [List.drop_eq_getElem_cons h, if_pos h]; rfl
  · rw [List.drop_eq_nil_of_le (by omega), if_neg h]; rfl

def orL : List Int → Int
  | [] => 0
  | x :: l => orI x (orL l)
/-- A position as a value: its lists lie at these places. -/
def PosV (a a0 a1 : Option Addr) (c c0 c1 : Nat) (p : PosS) : Value := .agg #[.slice a p.cells.length c, .slice a0 p.h0.length c0, .slice a1 p.h1.length c1, .int .i64 p.rights, .int .i64 p.side]
structure PosIn (n : Nat) (W : World) (a a0 a1 : Option Addr) (p : PosS) : Prop where
  cells : Ints n W a p.cells
  h0 : Ints n W a0 p.h0
  h1 : Ints n W a1 p.h1
structure PosFit (p : PosS) : Prop where
  cells : p.cells.length ≤ maxLen
  h0 : p.h0.length ≤ maxLen
  h1 : p.h1.length ≤ maxLen
theorem PosIn.up {N : Nat} {w w1 : World} {a a0 a1 : Option Addr} {p : PosS} (h : PosIn N w a a0 a1 p) (hN : N ≤ w.heap.size) (hb : Below w.heap.size w w1) : PosIn N w1 a a0 a1 p :=
  ⟨h.cells.up hN hb, h.h0.up hN hb, h.h1.up hN hb⟩

theorem below_grown_ (w : World) (k : Nat) (os : Array Obj) : Below w.heap.size w (grow (w.drewN k) os) :=
  ⟨rfl, rfl, rfl, by simp, fun j hj => heap_grow_old (w.drewN k) os hj⟩
set_option maxRecDepth 100000 in
set_option maxHeartbeats 1000000 in
theorem ints1_any (l m : List Int) (a a2 : Option Addr) (ct c2 N : Nat) (w : World) (hl : l.length ≤ maxLen) (hI : Ints N w a l) (hI2 : Ints N w a2 m) :
    Calls Try.prog 33 #[.slice a l.length ct, .slice a2 m.length c2] w fun e w' => e = .returned (.bool (decide (l = m))) ∧ ∃ q, w' = w.drewN q := by
  unfold maxLen at hl
  by_cases hlm : l.length = m.length
  · go_enter Try.func33, Try.ntmps33
    rw [← hlm]
    have HLM := Lib.hid hlm
    clear hlm
    go_wp2
    go_loopw [5] (fun i wr => ∃ k : Nat, k ≤ l.length ∧ i = .int .i64 k ∧ (∀ j, j < k → l[j]?.getD 0 = m[j]?.getD 0) ∧ ∃ q, wr = w.drewN q)
      (fun i _ => l.length - (intOf i).toNat)
    case atStart => exact ⟨0, Nat.zero_le _, rfl, fun j hj => absurd hj (Nat.not_lt_zero _), 0, rfl⟩
    case round =>
      obtain ⟨k, hk, rfl, hall, q0, rfl⟩ := hrel
      by_cases hlt : k < l.length
      · obtain ⟨b, off, hab, hbN, hc⟩ := hI.at_ hlt
        obtain ⟨b2, off2, hab2, hbN2, hc2⟩ := hI2.at_ (j := k) (by have := HLM.out; omega)
        subst hab
        subst hab2
        have HK2 := Lib.hid (show k < m.length by have := HLM.out; omega)
        generalize hy : l[k]?.getD 0 = y at hc
        generalize hz : m[k]?.getD 0 = z at hc2
        by_cases h : y = z
        · have h1 : (y != z) = false := by simpa using h
          have h2 : decide (y = z) = true := by simpa using h
          have HA := Lib.hid hall
          have HY := Lib.hid hy
          have HZ := Lib.hid hz
          clear hall hy hz hI hI2
          go_wp2_with fail
          go_quiet (fail)
          go_wp2
          go_roundw
          case rel => exact ⟨k + 1, by omega, by simp, fun j hj => by
            by_cases e : j = k
            · rw [e, HY.out, HZ.out]; exact h
            · exact HA.out j (by omega), by first | exact ⟨_, rfl⟩ | exact ⟨_, World.drewN_drewN _ _ _⟩⟩
          case measure => simp [intOf]; omega
        · have HO := Lib.hid (by
            have : ¬ l = m := fun e => h (by rw [← hy, ← hz, e])
            simpa using this : decide (l = m) = false)
          have h1 : (y != z) = true := by simpa using h
          have h2 : decide (y = z) = false := by simpa using h
          clear hall hy hz hI hI2
          go_wp2_with fail
          go_quiet (fail)
          go_wp2
          go_ret
          exact ⟨by rw [HO.out]; rfl, by first | exact ⟨_, rfl⟩ | exact ⟨_, World.drewN_drewN _ _ _⟩⟩
      · obtain rfl : k = l.length := by omega
        have HO := Lib.hid (by
          have : l = m := by
            apply List.ext_getElem HLM.out
            intro j h1 h2
            have := hall j h1
            simpa [h1, h2] using this
          simpa using this : decide (l = m) = true)
        clear hall hI hI2
        go_wp2
        go_ret
        exact ⟨by rw [HO.out]; rfl, by first | exact ⟨_, rfl⟩ | exact ⟨_, World.drewN_drewN _ _ _⟩⟩
  · have HO := Lib.hid (by
      have : ¬ l = m := fun e => hlm (by rw [e])
      simpa using this : decide (l = m) = false)
    have hne : ((l.length : Int) != (m.length : Int)) = true := by simp; omega
    have hne2 : decide ((l.length : Int) = (m.length : Int)) = false := by simp; omega
    go_enter Try.func33, Try.ntmps33
    go_wp2
    go_ret
    exact ⟨by rw [HO.out]; rfl, 0, rfl⟩

end Go.Proofs.Ytepbmgbomdekaaa
