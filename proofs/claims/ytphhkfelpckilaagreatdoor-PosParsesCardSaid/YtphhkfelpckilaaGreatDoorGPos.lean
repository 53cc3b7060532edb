/-
  Keys are in the order of the positions, and equal exactly if these are: lists of equal lengths of numbers that are bytes.
  What is true of the positions that the reference makes: they are valid, and their numbers are bytes.
  A valid position of which one number is another one, or one list is longer or shorter.
  What the laws of positions ask of a position that the reference made.
-/
import Derived.Test.YtphhkfelpckilaaGreatDoorDKeyT
import Derived.Test.YtphhkfelpckilaaGreatDoorDValid
import Derived.Sort.Walk0
import Derived.Test.YtphhkfelpckilaaGreatDoorGPosM
import Derived.Test.YtphhkfelpckilaaGreatDoorDWrt
import Derived.Test.YtphhkfelpckilaaGreatDoorDCopy
namespace Go.Proofs.YtphhkfelpckilaaGreatDoor
open Go Go.RowKit

theorem orI_zero (a : Int) : orI a 0 = a := by unfold orI; split <;> omega
theorem orI_assoc (a b c : Int) : orI (orI a b) c = orI a (orI b c) := by
  unfold orI
  by_cases h : a = 0
  · simp [h]
  · simp [h]
theorem cmpL_app : ∀ (a c b d : List Int), a.length = c.length → cmpL (a ++ b) (c ++ d) = orI (cmpL a c) (cmpL b d)
  | [], [], b, d, _ => by simp [cmpL, orI]
  | x :: a, y :: c, b, d, h => by
    rw [List.cons_append, List.cons_append, cmpL, cmpL, cmpL_app a c b d (by simpa using h), orI_assoc]
  | [], _ :: _, _, _, h => by simp at h
  | _ :: _, [], _, _, h => by simp at h
def flat (p : PosS) : List Int := p.cells ++ p.h0 ++ p.h1 ++ [p.rights, p.side]
theorem flat_len (p : PosS) : (flat p).length = p.cells.length + p.h0.length + p.h1.length + 2 := by simp [flat]; omega
theorem cmpP_flat {p q : PosS} (h1 : p.cells.length = q.cells.length) (h2 : p.h0.length = q.h0.length) (h3 : p.h1.length = q.h1.length) : cmpP p q = cmpL (flat p) (flat q) := by
  unfold flat cmpP
  rw [cmpL_app _ _ _ _ (by simp; omega), cmpL_app _ _ _ _ (by simp; omega), cmpL_app _ _ _ _ h1]
  simp only [cmpL, orI_zero, orI_assoc]
def Bys (l : List Int) : Prop := ∀ x ∈ l, 0 ≤ x ∧ x ≤ 255
theorem byteI_id {x : Int} (h : 0 ≤ x ∧ x ≤ 255) : byteI x = x := by
  unfold byteI
  omega
theorem map_byteI {l : List Int} (h : Bys l) : l.map byteI = l := by
  conv => rhs; rw [← List.map_id l]
  apply List.map_congr_left
  intro x hx
  exact byteI_id (h x hx)
theorem keyI_flat {p : PosS} (hb : Bys (flat p)) : keyI p = flat p := by
  have h1 : Bys p.cells := fun x hx => hb x (by simp [flat, hx])
  have h2 : Bys p.h0 := fun x hx => hb x (by simp [flat, hx])
  have h3 : Bys p.h1 := fun x hx => hb x (by simp [flat, hx])
  have h4 := byteI_id (hb p.rights (by simp [flat]))
  have h5 := byteI_id (hb p.side (by simp [flat]))
  unfold keyI flat
  rw [map_byteI h1, map_byteI h2, map_byteI h3, h4, h5]
def by8 (x : Int) : UInt8 := UInt8.ofNat x.toNat
theorem by8_nat {x : Int} (h : 0 ≤ x ∧ x ≤ 255) : ((by8 x).toNat : Int) = x := by
  unfold by8
  rw [UInt8.toNat_ofNat']
  omega
theorem by8_lt {x y : Int} (hx : 0 ≤ x ∧ x ≤ 255) (hy : 0 ≤ y ∧ y ≤ 255) : (by8 x < by8 y) ↔ x < y := by
  rw [UInt8.lt_iff_toNat_lt]
  have := by8_nat hx
  have := by8_nat hy
  omega
theorem by8_inj {x y : Int} (hx : 0 ≤ x ∧ x ≤ 255) (hy : 0 ≤ y ∧ y ≤ 255) : (by8 x = by8 y) ↔ x = y := by
  constructor
  · intro h
    have := by8_nat hx
    have := by8_nat hy
    rw [h] at *
    omega
  · rintro rfl; rfl
theorem less_cmp : ∀ (l m : List Int), Bys l → Bys m → Op.bytesLess (l.map by8) (m.map by8) = decide (cmpL l m = -1)
  | [], [], _, _ => by simp [Op.bytesLess, cmpL]
  | [], _ :: _, _, _ => by simp [Op.bytesLess, cmpL]
  | _ :: _, [], _, _ => by simp [Op.bytesLess, cmpL]
  | x :: l, y :: m, h1, h2 => by
    have hx := h1 x (by simp)
    have hy := h2 y (by simp)
    have ih := less_cmp l m (fun z hz => h1 z (by simp [hz])) (fun z hz => h2 z (by simp [hz]))
    rw [List.map_cons, List.map_cons, Op.bytesLess, ih, cmpL]
    have e1 := by8_lt hx hy
    have e2 := by8_inj hx hy
    rw [Bool.eq_iff_iff]
    simp only [Bool.or_eq_true, decide_eq_true_eq, Bool.and_eq_true, beq_iff_eq]
    rw [e1, e2]
    unfold orI cmpI
    by_cases p1 : x < y
    · simp [p1]
    · by_cases p2 : x = y
      · simp [p2]
      · simp [p1, p2]
theorem map_by8_inj : ∀ (l m : List Int), Bys l → Bys m → l.map by8 = m.map by8 → l = m
  | [], [], _, _, _ => rfl
  | [], _ :: _, _, _, h => by simp at h
  | _ :: _, [], _, _, h => by simp at h
  | x :: l, y :: m, h1, h2, h => by
    rw [List.map_cons, List.map_cons, List.cons.injEq] at h
    rw [(by8_inj (h1 x (by simp)) (h2 y (by simp))).1 h.1, map_by8_inj l m (fun z hz => h1 z (by simp [hz])) (fun z hz => h2 z (by simp [hz])) h.2]
theorem keyS_flat {p : PosS} (hb : Bys (flat p)) : keyS p = (flat p).map by8 := by
  unfold keyS
  rw [keyI_flat hb]; rfl
theorem keyS_len (p : PosS) : (keyS p).length = p.cells.length + p.h0.length + p.h1.length + 2 := by simp [keyS, keyI]; omega
theorem key_less {p q : PosS} (hp : Bys (flat p)) (hq : Bys (flat q)) (h1 : p.cells.length = q.cells.length) (h2 : p.h0.length = q.h0.length) (h3 : p.h1.length = q.h1.length) : Op.bytesLess (keyS p) (keyS q) = decide (cmpP p q = -1) := by
  rw [keyS_flat hp, keyS_flat hq, less_cmp _ _ hp hq, cmpP_flat h1 h2 h3]
theorem key_eq {p q : PosS} (hp : Bys (flat p)) (hq : Bys (flat q)) (h1 : p.cells.length = q.cells.length) (h2 : p.h0.length = q.h0.length) (h3 : p.h1.length = q.h1.length) : (keyS p = keyS q) ↔ cmpP p q = 0 := by
  rw [cmpP_flat h1 h2 h3, cmpL_ok.eq0, keyS_flat hp, keyS_flat hq]
  exact ⟨map_by8_inj _ _ hp hq, fun h => by rw [h]⟩
end Go.Proofs.YtphhkfelpckilaaGreatDoor

namespace Go.Proofs.YtphhkfelpckilaaGreatDoor
open Go Go.RowKit

theorem atTo_in {bc nk : Nat} (hn : 1 ≤ nk) (x : PRaw) : ∀ (n : Nat), ∀ v ∈ atTo bc nk x n, 0 ≤ v ∧ v ≤ 2 * (nk : Int)
  | 0, v, h => by
    unfold atTo at h
    have := List.eq_of_mem_replicate h
    omega
  | n + 1, v, h => by
    unfold atTo atStep at h
    split at h
    · rcases List.mem_or_eq_of_mem_set h with h | h
      · exact atTo_in hn x n v h
      · have h1 := Nat.mod_lt (x.kind n) (show 0 < nk by omega)
        have h2 := Nat.mod_lt n (show 0 < 2 by omega)
        omega
    · exact atTo_in hn x n v h
theorem handV_in (x : PRaw) (s k : Nat) : 0 ≤ handV x s k ∧ handV x s k ≤ 8 := by
  unfold handV
  split
  · omega
  · have := Nat.mod_lt (x.hand (2 * s + k)) (show 0 < 3 by omega)
    omega
theorem handTo_get (ks : List Bool) (x : PRaw) (s : Nat) {j : Nat} (hj : j < ks.length) : (handTo ks x s ks.length)[j]?.getD 0 = if ks[j]?.getD false = true then handV x s j else 0 := by
  unfold handTo
  simp [hj]
theorem handTo_in (ks : List Bool) (x : PRaw) (s : Nat) : ∀ v ∈ handTo ks x s ks.length, 0 ≤ v ∧ v ≤ 8 := by
  intro v hv
  obtain ⟨j, hj, rfl⟩ := List.mem_iff_getElem.1 hv
  have hj' : j < ks.length := by simpa [handTo_len] using hj
  have h := handTo_get ks x s hj'
  rw [List.getElem?_eq_getElem hj, Option.getD_some] at h
  rw [h]
  have := handV_in x s j
  split <;> omega
theorem upToB_of {n m : Int} (h0 : 0 ≤ n) (h1 : n ≤ m) : upToB n m = true := by unfold upToB; simp [h0, h1]
theorem handB_made (ks : List Bool) (x : PRaw) (s : Nat) : handB ks (handTo ks x s ks.length) = true := by
  unfold handB
  rw [handTo_len]
  simp only [decide_true, Bool.true_and, List.all_eq_true, List.mem_range]
  intro j hj
  unfold handOk
  rw [handTo_get ks x s hj]
  have := handV_in x s j
  split
  · exact upToB_of this.1 this.2
  · exact upToB_of (by omega) (by omega)
theorem madeP_valid {bc r : Nat} {ks : List Bool} (hn : 1 ≤ ks.length) (x : PRaw) : posB bc r ks (madeP bc r ks x) = true := by
  have h1 : allIn (atTo bc ks.length x 6) (2 * ks.length) = true := by
    unfold allIn
    rw [List.all_eq_true]
    intro v hv
    have := atTo_in hn x 6 v hv
    exact upToB_of this.1 this.2
  have h2 : 0 < 2 ^ r := Nat.pow_pos (by omega)
  have h3 := Nat.mod_lt x.rights h2
  have h4 := Nat.mod_lt x.side (show 0 < 2 by omega)
  have h5 : ((2 ^ r : Nat) : Int) = (2 : Int) ^ r := by simp
  unfold posB
  show (decide ((atTo bc ks.length x 6).length = bc) && (allIn (atTo bc ks.length x 6) (2 * ks.length) && (handB ks (handTo ks x 0 ks.length) && (handB ks (handTo ks x 1 ks.length) && (upToB ((x.rights % 2 ^ r : Nat) : Int) (2 ^ r - 1) && upToB ((x.side % 2 : Nat) : Int) 1))))) = true
  rw [atTo_len, h1, handB_made, handB_made, upToB_of (by omega) (by rw [← h5]; omega), upToB_of (by omega) (by omega)]
  simp
theorem madeP_bys {bc r : Nat} {ks : List Bool} (hn : 1 ≤ ks.length) (hk : ks.length ≤ 100) (hr : r ≤ 2) (x : PRaw) : Bys (flat (madeP bc r ks x)) := by
  intro v hv
  have h2 : 2 ^ r ≤ 4 := by
    rcases (show r = 0 ∨ r = 1 ∨ r = 2 by omega) with rfl | rfl | rfl <;> simp
  have h3 := Nat.mod_lt x.rights (show 0 < 2 ^ r from Nat.pow_pos (by omega))
  have h4 := Nat.mod_lt x.side (show 0 < 2 by omega)
  have hv' : v ∈ atTo bc ks.length x 6 ++ handTo ks x 0 ks.length ++ handTo ks x 1 ks.length ++ [((x.rights % 2 ^ r : Nat) : Int), ((x.side % 2 : Nat) : Int)] := hv
  simp only [List.mem_append, List.mem_cons, List.not_mem_nil, or_false] at hv'
  rcases hv' with ((h | h) | h) | h | h
  · have := atTo_in hn x 6 v h; omega
  · have := handTo_in ks x 0 v h; omega
  · have := handTo_in ks x 1 v h; omega
  · omega
  · omega
end Go.Proofs.YtphhkfelpckilaaGreatDoor

namespace Go.Proofs.YtphhkfelpckilaaGreatDoor
open Go Go.RowKit

theorem allIn_set {l : List Int} {m n : Int} {i : Nat} (h : allIn l m = true) (hi : i < l.length) : allIn (l.set i n) m = upToB n m := by
  unfold allIn at *
  rw [List.all_eq_true] at h
  rw [Bool.eq_iff_iff, List.all_eq_true]
  constructor
  · intro h2
    exact h2 n (List.mem_set hi n)
  · intro h2 x hx
    rcases List.mem_or_eq_of_mem_set hx with hx | rfl
    · exact h x hx
    · exact h2
theorem handB_set {ks : List Bool} {h : List Int} {n : Int} {k : Nat} (hh : handB ks h = true) (hk : k < h.length) : handB ks (h.set k n) = upToB n (if ks[k]?.getD false = true then 8 else 0) := by
  unfold handB at *
  rw [Bool.and_eq_true, decide_eq_true_eq, List.all_eq_true] at hh
  obtain ⟨h1, h2⟩ := hh
  rw [List.length_set, h1, decide_eq_true rfl, Bool.true_and, Bool.eq_iff_iff, List.all_eq_true]
  constructor
  · intro h3
    have := h3 k (by rw [List.mem_range]; omega)
    unfold handOk at this
    rw [List.getElem?_set_self hk, Option.getD_some] at this
    exact this
  · intro h3 j hj
    by_cases e : k = j
    · subst e
      unfold handOk
      rw [List.getElem?_set_self hk, Option.getD_some]
      exact h3
    · unfold handOk
      rw [List.getElem?_set_ne e]
      exact h2 j (by rw [h1]; exact hj)
structure PosAll (bc r : Nat) (ks : List Bool) (p : PosS) : Prop where
  len : p.cells.length = bc
  cells : allIn p.cells (2 * ks.length) = true
  h0 : handB ks p.h0 = true
  h1 : handB ks p.h1 = true
  rights : upToB p.rights (2 ^ r - 1) = true
  side : upToB p.side 1 = true
theorem posB_all {bc r : Nat} {ks : List Bool} {p : PosS} (h : posB bc r ks p = true) : PosAll bc r ks p := by
  unfold posB at h
  simp only [Bool.and_eq_true, decide_eq_true_eq] at h
  obtain ⟨h1, h2, h3, h4, h5, h6⟩ := h
  exact ⟨h1, h2, h3, h4, h5, h6⟩
theorem posB_cells {bc r : Nat} {ks : List Bool} {p : PosS} (h : PosAll bc r ks p) {i : Nat} (n : Int) (hi : i < p.cells.length) : posB bc r ks { p with cells := p.cells.set i n } = upToB n (2 * ks.length) := by
  unfold posB
  dsimp only
  rw [List.length_set, h.len, allIn_set h.cells hi, h.h0, h.h1, h.rights, h.side]
  simp
theorem posB_h0 {bc r : Nat} {ks : List Bool} {p : PosS} (h : PosAll bc r ks p) {k : Nat} (n : Int) (hk : k < p.h0.length) : posB bc r ks { p with h0 := p.h0.set k n } = upToB n (if ks[k]?.getD false = true then 8 else 0) := by
  unfold posB
  dsimp only
  rw [h.len, h.cells, handB_set h.h0 hk, h.h1, h.rights, h.side]
  simp
theorem posB_h1 {bc r : Nat} {ks : List Bool} {p : PosS} (h : PosAll bc r ks p) {k : Nat} (n : Int) (hk : k < p.h1.length) : posB bc r ks { p with h1 := p.h1.set k n } = upToB n (if ks[k]?.getD false = true then 8 else 0) := by
  unfold posB
  dsimp only
  rw [h.len, h.cells, h.h0, handB_set h.h1 hk, h.rights, h.side]
  simp
theorem posB_rights {bc r : Nat} {ks : List Bool} {p : PosS} (h : PosAll bc r ks p) (n : Int) : posB bc r ks { p with rights := n } = upToB n (2 ^ r - 1) := by
  unfold posB
  dsimp only
  rw [h.len, h.cells, h.h0, h.h1, h.side]
  simp
theorem posB_side {bc r : Nat} {ks : List Bool} {p : PosS} (h : PosAll bc r ks p) (n : Int) : posB bc r ks { p with side := n } = upToB n 1 := by
  unfold posB
  dsimp only
  rw [h.len, h.cells, h.h0, h.h1, h.rights]
  simp
theorem posB_more {bc r : Nat} {ks : List Bool} {p : PosS} (h : PosAll bc r ks p) (n : Int) : posB bc r ks { p with cells := p.cells ++ [n] } = false := by
  unfold posB
  dsimp only
  rw [List.length_append, h.len]
  simp
theorem hand_len {ks : List Bool} {h : List Int} (hh : handB ks h = true) : h.length = ks.length := by
  unfold handB at hh
  rw [Bool.and_eq_true, decide_eq_true_eq] at hh
  exact hh.1
theorem handB_take {ks : List Bool} {h : List Int} {k : Nat} (hh : handB ks h = true) (hk : k < ks.length) : handB ks (h.take k) = false := by
  have := hand_len hh
  exact handB_len (by rw [List.length_take]; omega)
theorem posB_t0 {bc r : Nat} {ks : List Bool} {p : PosS} (h : PosAll bc r ks p) {k : Nat} (hk : k < ks.length) : posB bc r ks { p with h0 := p.h0.take k } = false := by
  unfold posB
  dsimp only
  rw [handB_take h.h0 hk]
  simp
theorem posB_t1 {bc r : Nat} {ks : List Bool} {p : PosS} (h : PosAll bc r ks p) {k : Nat} (hk : k < ks.length) : posB bc r ks { p with h1 := p.h1.take k } = false := by
  unfold posB
  dsimp only
  rw [handB_take h.h1 hk]
  simp
end Go.Proofs.YtphhkfelpckilaaGreatDoor

namespace Go.Proofs.YtphhkfelpckilaaGreatDoor
open Go Go.RowKit

structure PosGood (bc r : Nat) (ks : List Bool) (p : PosS) : Prop where
  all : PosAll bc r ks p
  bys : Bys (flat p)
  l0 : p.h0.length = ks.length
  l1 : p.h1.length = ks.length
  fit : PosFit p
  num : PosNum p
  small : PosSmall p
theorem madeP_good {bc r : Nat} {ks : List Bool} (hbc : 1 ≤ bc ∧ bc ≤ 9) (hr : r ≤ 2) (hks : 1 ≤ ks.length ∧ ks.length ≤ 2) (x : PRaw) : PosGood bc r ks (madeP bc r ks x) := by
  have ha := posB_all (madeP_valid (bc := bc) (r := r) hks.1 x)
  have hb := madeP_bys (bc := bc) hks.1 (by omega) hr x
  have l0 := hand_len ha.h0
  have l1 := hand_len ha.h1
  have h5 := hb (madeP bc r ks x).rights (by simp [flat])
  have h6 := hb (madeP bc r ks x).side (by simp [flat])
  have hl := ha.len
  exact ⟨ha, hb, l0, l1, ⟨by unfold maxLen; omega, by unfold maxLen; omega, by unfold maxLen; omega⟩, ⟨by omega, by omega, by omega, by omega, by omega⟩, ⟨by omega, by omega, by omega⟩⟩
theorem made_pos (bc r : Nat) (ks : List Bool) (vn vt vm vc vb ve : Value) (ak : Option Addr) (ck N : Nat) (x : PRaw) (w : World) (hbc : 1 ≤ bc ∧ bc ≤ 9) (hr : r ≤ 2) (hks : 1 ≤ ks.length ∧ ks.length ≤ 2) (hx : x.Ok) (hN : N ≤ w.heap.size) (hK : Keeps N w ak ks) :
    Calls Tryz.prog 33 #[.agg #[.int .i64 (bc : Int), vn, vt, .slice ak ks.length ck, .int .i64 (r : Int), vm, vc, vb, ve], .agg x.cells] w fun e w' =>
      ∃ (p : PosS) (A B0 B1 c c0 c1 : Nat), e = .returned (.agg #[.slice (some ⟨A, 0, none⟩) p.cells.length c, .slice (some ⟨B0, 0, none⟩) p.h0.length c0, .slice (some ⟨B1, 0, none⟩) p.h1.length c1, .int .i64 p.rights, .int .i64 p.side]) ∧ PosOwn w.heap.size w' (some ⟨A, 0, none⟩) (some ⟨B0, 0, none⟩) (some ⟨B1, 0, none⟩) c c0 c1 p ∧ (¬ A = B0 ∧ ¬ A = B1 ∧ ¬ B0 = B1) ∧ PosGood bc r ks p ∧ p = madeP bc r ks x ∧ Below w.heap.size w w' := by
  refine (madeP_any bc r ks vn vt vm vc vb ve ak ck N x w hbc hr hks hx hN hK).mono ?_
  rintro e w' ⟨A, B0, B1, c, c0, c1, rfl, hO, hne, hb⟩
  exact ⟨_, A, B0, B1, c, c0, c1, rfl, hO, hne, madeP_good hbc hr hks x, rfl, hb⟩
theorem info_raw3 : (Tryz.prog.info? 27).map (·.size) = some 12 := by kernel_rfl
theorem info_raw4 : (Tryz.prog.info? 61).map (·.size) = some 18 := by kernel_rfl
theorem info_game9 : (Tryz.prog.info? 41).map (·.size) = some 9 := by kernel_rfl
theorem info_pos8 : (Tryz.prog.info? 32).map (·.size) = some 5 := by kernel_rfl
end Go.Proofs.YtphhkfelpckilaaGreatDoor
