/-
  ProgTurns: what is true of programs that are turned by a permutation.
-/
import Derived.Test.YtidgdfjnjgonoaaGreatDoorPTurned
import Derived.Test.YtidgdfjnjgonoaaGreatDoorPTurnI
import Derived.Test.YtidgdfjnjgonoaaGreatDoorQDirsW
import Derived.Test.YtidgdfjnjgonoaaGreatDoorQValid
import Derived.Test.YtidgdfjnjgonoaaGreatDoorPPrint
namespace Go.Proofs.YtidgdfjnjgonoaaGreatDoor
open Go Go.RowKit Go.Sort Go.Lib

/-- A list that has each of the numbers below 8 once. -/
structure Pm (T : List Int) : Prop where
  perm : List.Perm T idL
theorem Pm.len {T : List Int} (h : Pm T) : T.length = 8 := by rw [h.perm.length_eq]; rfl
theorem Pm.nodup {T : List Int} (h : Pm T) : T.Nodup := h.perm.nodup_iff.2 (by decide)
theorem Pm.bound {T : List Int} (h : Pm T) {j : Nat} (hj : j < 8) : 0 ≤ T[j]?.getD 0 ∧ T[j]?.getD 0 < 8 := by
  have hl := h.len
  rw [List.getElem?_eq_getElem (by omega), Option.getD_some]
  have hm := h.perm.mem_iff.1 (List.getElem_mem (l := T) (n := j) (by omega))
  simp [idL] at hm
  omega
theorem Pm.inj {T : List Int} (h : Pm T) {i j : Nat} (hi : i < 8) (hj : j < 8) (e : T[i]?.getD 0 = T[j]?.getD 0) : i = j := by
  have hl := h.len
  rw [List.getElem?_eq_getElem (by omega), List.getElem?_eq_getElem (by omega), Option.getD_some, Option.getD_some] at e
  exact (List.getElem_inj h.nodup).1 e
theorem Pm.id : Pm idL := ⟨List.Perm.refl _⟩
theorem Pm.swap {T : List Int} (h : Pm T) {i k : Nat} (hi : i < 8) (hk : k < 8) : Pm ((T.set i (T[k]?.getD 0)).set k (T[i]?.getD 0)) := by
  have hl := h.len
  rw [List.getElem?_eq_getElem (by omega), List.getElem?_eq_getElem (by omega), Option.getD_some, Option.getD_some]
  exact ⟨(List.set_set_perm (by omega) (by omega)).trans h.perm⟩

/-- The way back. -/
def backTo (T : List Int) : Nat → List Int
  | 0 => List.replicate 8 0
  | i + 1 => (backTo T i).set (T[i]?.getD 0).toNat (i : Int)
theorem backTo_len (T : List Int) : ∀ i, (backTo T i).length = 8
  | 0 => rfl
  | i + 1 => by unfold backTo; rw [List.length_set, backTo_len T i]
theorem backTo_at {T : List Int} (h : Pm T) : ∀ i, i ≤ 8 → ∀ j, j < i → (backTo T i)[(T[j]?.getD 0).toNat]?.getD 0 = (j : Int)
  | 0, _, j, hj => by omega
  | i + 1, hi, j, hj => by
    unfold backTo
    have hb := h.bound (j := j) (by omega)
    have hbi := h.bound (j := i) (by omega)
    by_cases e : j = i
    · subst e
      rw [List.getElem?_set_self (by rw [backTo_len]; omega)]
      rfl
    · have hne : ¬ (T[i]?.getD 0).toNat = (T[j]?.getD 0).toNat := fun e2 => e (h.inj (by omega) (by omega) (by omega))
      rw [List.getElem?_set_ne hne]
      exact backTo_at h i (by omega) j (by omega)

theorem ok_dir {x : Int × Int} (h : okStep 8 6 4 x = true) (hd : hasDirB x.1 = true) : 0 ≤ x.2 ∧ x.2 < 8 := by
  unfold okStep at h
  unfold hasDirB at hd
  simp only [Bool.and_eq_true, decide_eq_true_eq] at h hd
  have := h.2.2
  unfold limS at this
  rw [hd.2] at this
  simp at this
  exact ⟨h.2.1, this⟩
theorem turn1_dir {T : List Int} (hl : T.length = 8) {x : Int × Int} (h : okStep 8 6 4 x = true) (hd : hasDirB x.1 = true) : turn1 T x = (x.1, T[x.2.toNat]?.getD 0) := by
  have := ok_dir h hd
  unfold turn1
  rw [if_pos ⟨hd, this.1, by rw [hl]; omega⟩]
theorem turn1_not {T : List Int} {x : Int × Int} (hd : hasDirB x.1 = false) : turn1 T x = x := by
  unfold turn1
  rw [if_neg (by rw [hd]; simp)]
theorem turn1_op (T : List Int) (x : Int × Int) : (turn1 T x).1 = x.1 := by
  unfold turn1; split <;> rfl
theorem turn1_ok {T : List Int} (hp : Pm T) {x : Int × Int} (h : okStep 8 6 4 x = true) : okStep 8 6 4 (turn1 T x) = true := by
  cases hd : hasDirB x.1 with
  | false => rw [turn1_not hd]; exact h
  | true =>
    have hr := ok_dir h hd
    have hb := hp.bound (j := x.2.toNat) (by omega)
    rw [turn1_dir hp.len h hd]
    unfold okStep at h ⊢
    unfold hasDirB at hd
    simp only [Bool.and_eq_true, decide_eq_true_eq] at h hd ⊢
    refine ⟨h.1, hb.1, ?_⟩
    unfold limS
    rw [hd.2]
    simpa using hb.2
theorem turn1_back {T : List Int} (hp : Pm T) {x : Int × Int} (h : okStep 8 6 4 x = true) : turn1 (backTo T 8) (turn1 T x) = x := by
  cases hd : hasDirB x.1 with
  | false => rw [turn1_not hd, turn1_not hd]
  | true =>
    have hok := turn1_ok hp h
    have hr := ok_dir h hd
    rw [turn1_dir hp.len h hd] at hok ⊢
    rw [turn1_dir (backTo_len T 8) hok hd]
    dsimp only
    rw [backTo_at hp 8 (by omega) x.2.toNat (by omega), Int.toNat_of_nonneg hr.1]
theorem okAll {P : List (Int × Int)} (h : validP P 8 6 4 = true) : ∀ x ∈ P, okStep 8 6 4 x = true := by
  unfold validP at h
  simp only [Bool.and_eq_true, List.all_eq_true] at h
  exact h.2.2.1
theorem turn_back {T : List Int} (hp : Pm T) {P : List (Int × Int)} (h : validP P 8 6 4 = true) : (P.map (turn1 T)).map (turn1 (backTo T 8)) = P := by
  rw [List.map_map]
  have : ∀ x ∈ P, (turn1 (backTo T 8) ∘ turn1 T) x = x := fun x hx => turn1_back hp (okAll h x hx)
  calc P.map (turn1 (backTo T 8) ∘ turn1 T) = P.map id := List.map_congr_left this
    _ = P := by simp
theorem cnt_turn (T : List Int) (P : List (Int × Int)) (op : Int) : cntS (P.map (turn1 T)) op = cntS P op := by
  unfold cntS
  induction P with
  | nil => rfl
  | cons x l ih =>
    rw [List.map_cons, List.filter_cons, List.filter_cons, turn1_op]
    split <;> simp [ih] <;> omega
theorem takes_turn (T : List Int) (P : List (Int × Int)) : takesS (P.map (turn1 T)) = takesS P := by
  rw [any_cnt, any_cnt, cnt_turn]
theorem valid_turn {T : List Int} (hp : Pm T) {P : List (Int × Int)} (h : validP P 8 6 4 = true) : validP (P.map (turn1 T)) 8 6 4 = true := by
  have hall := okAll h
  unfold validP at h ⊢
  simp only [Bool.and_eq_true, List.all_eq_true, cnt_turn, List.length_map] at h ⊢
  refine ⟨h.1, h.2.1, ?_, h.2.2.2⟩
  intro x hx
  obtain ⟨y, hy, rfl⟩ := List.mem_map.1 hx
  exact turn1_ok hp (hall y hy)
theorem dirsL_turn {T : List Int} (hp : Pm T) : ∀ {P : List (Int × Int)}, (∀ x ∈ P, okStep 8 6 4 x = true) → dirsL (P.map (turn1 T)) = (dirsL P).map fun d => T[d.toNat]?.getD 0
  | [], _ => rfl
  | x :: P, h => by
    have ih := dirsL_turn hp (P := P) (fun y hy => h y (by simp [hy]))
    unfold dirsL at ih ⊢
    rw [List.map_cons, List.filter_cons, List.filter_cons, turn1_op]
    cases hd : hasDirB x.1 with
    | false => simpa using ih
    | true => simp only [if_true, List.map_cons]; rw [ih, turn1_dir hp.len (h x (by simp)) hd]
theorem dirsL_mem {P : List (Int × Int)} (h : ∀ x ∈ P, okStep 8 6 4 x = true) {d : Int} (hd : d ∈ dirsL P) : 0 ≤ d ∧ d < 8 := by
  unfold dirsL at hd
  obtain ⟨x, hx, rfl⟩ := List.mem_map.1 hd
  obtain ⟨hx1, hx2⟩ := List.mem_filter.1 hx
  exact ok_dir (h x hx1) hx2
theorem incr_nodup {l : List Int} (h : Incr l) : l.Nodup := by
  unfold Incr at h
  exact h.imp (fun hab e => by omega)
/-- As many directions as before; each one's image is among them. -/
theorem dirs_turn {T : List Int} (hp : Pm T) {P : List (Int × Int)} (h : validP P 8 6 4 = true) :
    (dirsS (P.map (turn1 T))).length = (dirsS P).length ∧ (∀ d ∈ dirsS P, 0 ≤ d ∧ d < 8 ∧ T[d.toNat]?.getD 0 ∈ dirsS (P.map (turn1 T))) := by
  have hall := okAll h
  obtain ⟨i1, m1⟩ := dirs_ok P
  obtain ⟨i2, m2⟩ := dirs_ok (P.map (turn1 T))
  rw [dirsL_turn hp hall] at m2
  have hinj : ∀ a b : Int, a ∈ dirsS P → b ∈ dirsS P → T[a.toNat]?.getD 0 = T[b.toNat]?.getD 0 → a = b := fun a b ha hb e => by
    have h1 := dirsL_mem hall ((m1 a).1 ha)
    have h2 := dirsL_mem hall ((m1 b).1 hb)
    have := hp.inj (i := a.toNat) (j := b.toNat) (by omega) (by omega) e
    omega
  have hnd : ((dirsS P).map fun d => T[d.toNat]?.getD 0).Nodup := by
    have hn := incr_nodup i1
    revert hinj hn
    generalize dirsS P = D
    intro hinj hn
    induction D with
    | nil => simp
    | cons a D ih =>
      rw [List.map_cons, List.nodup_cons]
      rw [List.nodup_cons] at hn
      refine ⟨?_, ih (fun x y hx hy => hinj x y (by simp [hx]) (by simp [hy])) hn.2⟩
      intro hm
      obtain ⟨b, hb, e⟩ := List.mem_map.1 hm
      exact hn.1 (by rw [hinj a b (by simp) (by simp [hb]) e.symm]; exact hb)
  have hpe : List.Perm ((dirsS P).map fun d => T[d.toNat]?.getD 0) (dirsS (P.map (turn1 T))) := by
    rw [List.perm_ext_iff_of_nodup hnd (incr_nodup i2)]
    intro a
    rw [m2, List.mem_map, List.mem_map]
    constructor
    · rintro ⟨d, hd, e⟩; exact ⟨d, (m1 d).1 hd, e⟩
    · rintro ⟨d, hd, e⟩; exact ⟨d, (m1 d).2 hd, e⟩
  refine ⟨?_, fun d hd => ?_⟩
  · rw [← hpe.length_eq, List.length_map]
  · have hb := dirsL_mem hall ((m1 d).1 hd)
    exact ⟨hb.1, hb.2, hpe.mem_iff.1 (List.mem_map.2 ⟨d, hd, rfl⟩)⟩
end Go.Proofs.YtidgdfjnjgonoaaGreatDoor
