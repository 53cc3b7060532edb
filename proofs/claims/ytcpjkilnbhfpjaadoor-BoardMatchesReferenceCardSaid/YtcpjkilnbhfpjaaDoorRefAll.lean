/-
  Distances level by level: what the reference's search computes, as lists.
  Parts by making neighbors alike until nothing changes: what the reference computes, as a list.
  Line of the reference: it is that of the package board.
  Without of the reference: it is that of the package board.
  The distances of the reference: they are those of the package board.
  Far of the reference: it is that of the package board.
  Parts of the reference: they are those of the package board.
  BoardMatchesReference returns true.
-/
import Derived.Test.YtcpjkilnbhfpjaaDoorFarP
import Derived.Test.YtcpjkilnbhfpjaaDoorDistP
import Derived.Test.YtcpjkilnbhfpjaaDoorLineP
import Derived.Test.YtcpjkilnbhfpjaaDoorPartsP
import Derived.Test.YtcpjkilnbhfpjaaDoorNearP
import Derived.Test.YtcpjkilnbhfpjaaDoorWithoutP
import Derived.Test.YtcpjkilnbhfpjaaDoorRefNear
import Derived.Deep.DeepCutAuto
import Derived.StillTailTactics
import Derived.BigQuiet
import Derived.Test.YtcpjkilnbhfpjaaDoorRefLists
namespace Go.Proofs.YtcpjkilnbhfpjaaDoor
open Go Go.RowKit

/-- What is known of the distances from a. -/
structure DistIs (B : Brd) (n a : Nat) (D : List Int) : Prop where
  len : D.length = n
  low : ∀ x : Nat, x < n → -1 ≤ D[x]?.getD 0
  hi : ∀ x : Nat, x < n → D[x]?.getD 0 ≤ n
  self : D[a]?.getD 0 = 0
  only : ∀ x : Nat, x < n → D[x]?.getD 0 = 0 → x = a
  tri : ∀ y : Nat, y < n → 0 ≤ D[y]?.getD 0 → ∀ z ∈ nearS B y, 0 ≤ z ∧ z < n ∧ 0 ≤ D[z.toNat]?.getD 0 ∧ D[z.toNat]?.getD 0 ≤ D[y]?.getD 0 + 1
  pred : ∀ x : Nat, x < n → 1 ≤ D[x]?.getD 0 → ∃ y : Nat, y < n ∧ D[y]?.getD 0 + 1 = D[x]?.getD 0 ∧ (x : Int) ∈ nearS B y

theorem dist_is {B : Brd} (hB : B.Ok) {n a : Nat} (hn : B.cells = n) (ha : a < n) : DistIs B n a (distS (stepsS B) n a) := by
  have hin := stepsS_lt hB hn
  obtain ⟨h1, h2, h3, h4⟩ := dist_spec ha hin
  refine ⟨dist_len _ _ _, h1, fun x hx => dist_le ha hin x hx, h4, ?_, ?_, ?_⟩
  · intro x hx h0
    have hs := h2 x hx (by omega)
    rw [h0] at hs
    rcases steps_last hs with ⟨_, e⟩ | ⟨m, y, e, _⟩
    · exact Int.ofNat.inj e
    · cases e
  · intro y hy h0 z hz
    have hs := h2 y hy h0
    have hz2 := (mem_nearS hB).1 hz
    obtain ⟨g1, g2, g3, g4⟩ := h3 _ _ (.on hs hz2.2)
    exact ⟨g1, g2, g3, by omega⟩
  · intro x hx h1x
    have hs := h2 x hx (by omega)
    rcases steps_last hs with ⟨e, _⟩ | ⟨m, y, e, hy, hxy⟩
    · omega
    · obtain ⟨g1, g2, g3, g4⟩ := h3 _ _ hy
      obtain ⟨y', rfl⟩ := Int.eq_ofNat_of_zero_le g1
      rw [Int.toNat_natCast] at g3 g4
      obtain ⟨k1, k2, k3, k4⟩ := h3 _ _ (.on (h2 y' (by omega) g3) hxy)
      rw [Int.toNat_natCast] at k4
      refine ⟨y', by omega, by omega, (mem_nearS hB).2 ⟨?_, hxy⟩⟩
      intro e2
      have : x = y' := Int.ofNat.inj e2
      subst this
      omega

/-- The numbers while the level m is being made. -/
structure Lev (D : List Int) (n : Nat) (m : Int) (out next : List Int) : Prop where
  len : out.length = n
  val : ∀ x : Nat, x < n → out[x]?.getD 0 = if (x : Int) ∈ next then m else if 0 ≤ D[x]?.getD 0 ∧ D[x]?.getD 0 < m then D[x]?.getD 0 else -1
  nx : ∀ x ∈ next, 0 ≤ x ∧ x < n ∧ D[x.toNat]?.getD 0 = m
  nodup : next.Nodup

theorem Lev.short {D : List Int} {n : Nat} {m : Int} {out next : List Int} (h : Lev D n m out next) : next.length ≤ n :=
  pigeon n next h.nodup (fun x hx => by have := h.nx x hx; omega)

/-- All cells of the level before. -/
def LastIs (D : List Int) (n : Nat) (m : Int) (last : List Int) : Prop := (∀ y ∈ last, 0 ≤ y ∧ y < n ∧ D[y.toNat]?.getD 0 = m) ∧ ∀ x : Nat, x < n → D[x]?.getD 0 = m → (x : Int) ∈ last

theorem Lev.start {B : Brd} {n a : Nat} {D : List Int} (hD : DistIs B n a D) (ha : a < n) : Lev D n 1 ((List.replicate n (-1)).set a 0) [] ∧ LastIs D n 0 [(a : Int)] := by
  refine ⟨⟨by simp, fun x hx => ?_, by simp, by simp⟩, ?_, ?_⟩
  · rw [if_neg (by simp)]
    by_cases e : x = a
    · subst e
      rw [List.getElem?_set_self (by simpa using hx), Option.getD_some, hD.self]; simp
    · rw [List.getElem?_set_ne (fun h => e h.symm), List.getElem?_replicate, if_pos hx, Option.getD_some, if_neg]
      intro h
      exact e (hD.only x hx (by omega))
  · intro y hy
    rw [List.mem_singleton.1 hy]
    refine ⟨by omega, by omega, by rw [Int.toNat_natCast]; exact hD.self⟩
  · intro x hx h0
    rw [hD.only x hx h0]; simp

/-- A new cell of the level. -/
theorem Lev.push {B : Brd} {n a : Nat} {D : List Int} (hD : DistIs B n a D) {m : Int} {out next : List Int} (h : Lev D n m out next) {y : Nat} (hy : y < n) (hym : D[y]?.getD 0 + 1 = m) (hy0 : 0 ≤ D[y]?.getD 0) {z : Nat} (hz : (z : Int) ∈ nearS B y)
    (hlt : out[z]?.getD 0 < 0) : Lev D n m (out.set z m) (next ++ [(z : Int)]) := by
  obtain ⟨t1, t2, t3, t4⟩ := hD.tri y hy hy0 z hz
  rw [Int.toNat_natCast] at t3 t4
  have hzn : z < n := by omega
  have hv := h.val z hzn
  have hl := h.len
  have hnm : ¬ (z : Int) ∈ next := by
    intro hm
    rw [if_pos hm] at hv
    omega
  rw [if_neg hnm] at hv
  have hzm : D[z]?.getD 0 = m := by
    by_cases hc : 0 ≤ D[z]?.getD 0 ∧ D[z]?.getD 0 < m
    · rw [if_pos hc] at hv; omega
    · omega
  refine ⟨by simp [hl], fun x hx => ?_, fun x hx => ?_, ?_⟩
  · by_cases e : x = z
    · subst e
      rw [List.getElem?_set_self (by omega), Option.getD_some, if_pos (by simp)]
    · rw [List.getElem?_set_ne (fun h => e h.symm), h.val x hx]
      by_cases hm : (x : Int) ∈ next
      · rw [if_pos hm, if_pos (by simp [hm])]
      · have h3 : ¬ (x : Int) ∈ next ++ [(z : Int)] := by
          intro h2
          rcases List.mem_append.1 h2 with h2 | h2
          · exact hm h2
          · exact e (Int.ofNat.inj (List.mem_singleton.1 h2))
        rw [if_neg hm, if_neg h3]
  · rcases List.mem_append.1 hx with hx | hx
    · exact h.nx x hx
    · rw [List.mem_singleton.1 hx]
      exact ⟨by omega, by omega, by rw [Int.toNat_natCast]; exact hzm⟩
  · refine List.nodup_append.2 ⟨h.nodup, by simp, ?_⟩
    intro x hx y hy e
    rw [List.mem_singleton.1 hy] at e
    exact hnm (by rw [← e]; exact hx)

theorem Lev.keep {n : Nat} {m : Int} {out : List Int} {z j : Nat} (hl : out.length = n) (hz : z < n) (hm : 0 ≤ m) (h0 : 0 ≤ out[j]?.getD 0) : 0 ≤ (out.set z m)[j]?.getD 0 := by
  by_cases e : j = z
  · subst e; rw [List.getElem?_set_self (by omega), Option.getD_some]; exact hm
  · rw [List.getElem?_set_ne (fun h => e h.symm)]; exact h0

/-- The level is made: the next one begins. -/
theorem Lev.next {B : Brd} {n a : Nat} {D : List Int} (hD : DistIs B n a D) {m : Int} (hm : 1 ≤ m) {out next last : List Int} (h : Lev D n m out next) (hla : LastIs D n (m - 1) last)
    (hall : ∀ y ∈ last, ∀ z ∈ nearS B y, 0 ≤ out[z.toNat]?.getD 0) : Lev D n (m + 1) out [] ∧ LastIs D n m next := by
  have hin : ∀ x : Nat, x < n → D[x]?.getD 0 = m → (x : Int) ∈ next := by
    intro x hx hxm
    obtain ⟨y, hy, hym, hxy⟩ := hD.pred x hx (by omega)
    have hyl := hla.2 y hy (by omega)
    have ho := hall _ hyl _ hxy
    rw [Int.toNat_natCast, h.val x hx] at ho
    by_cases hmem : (x : Int) ∈ next
    · exact hmem
    · rw [if_neg hmem, if_neg (by omega)] at ho; omega
  refine ⟨⟨h.len, fun x hx => ?_, by simp, by simp⟩, h.nx, hin⟩
  rw [if_neg (by simp), h.val x hx]
  by_cases hmem : (x : Int) ∈ next
  · have := h.nx _ hmem
    rw [Int.toNat_natCast] at this
    rw [if_pos hmem, if_pos (by omega)]; omega
  · rw [if_neg hmem]
    by_cases hc : 0 ≤ D[x]?.getD 0 ∧ D[x]?.getD 0 < m
    · rw [if_pos hc, if_pos (by omega)]
    · rw [if_neg hc, if_neg]
      intro hc2
      exact hmem (hin x hx (by omega))

/-- No cell at the level before: all distances are there. -/
theorem Lev.done {B : Brd} {n a : Nat} {D : List Int} (hD : DistIs B n a D) {m : Int} (hm : 1 ≤ m) {out : List Int} (h : Lev D n m out []) (hla : LastIs D n (m - 1) []) : out = D := by
  have hno : ∀ (k : Nat) (x : Nat), x < n → ¬ D[x]?.getD 0 = m - 1 + k := by
    intro k
    induction k with
    | zero => intro x hx e; have := hla.2 x hx (by omega); simp at this
    | succ k ih =>
      intro x hx e
      obtain ⟨y, hy, hym, _⟩ := hD.pred x hx (by omega)
      exact ih y hy (by omega)
  apply List.ext_getElem
  · rw [h.len, hD.len]
  · intro x h1 h2
    have hx : x < n := by rw [h.len] at h1; exact h1
    have hv := h.val x hx
    rw [if_neg (by simp)] at hv
    have hlow := hD.low x hx
    have hk := hno (D[x]?.getD 0 - (m - 1)).toNat x hx
    have e : out[x]?.getD 0 = D[x]?.getD 0 := by
      rw [hv]
      split
      · rfl
      · omega
    simpa [h1, h2] using e

theorem Lev.bound {B : Brd} {n a : Nat} {D : List Int} (hD : DistIs B n a D) {m : Int} {last : List Int} (hla : LastIs D n (m - 1) last) (h1 : 1 ≤ last.length) : m ≤ n + 1 := by
  have hm : last[0]?.getD 0 ∈ last := by rw [List.getElem?_eq_getElem (by omega), Option.getD_some]; exact List.getElem_mem _
  obtain ⟨g1, g2, g3⟩ := hla.1 _ hm
  have := hD.hi (last[0]?.getD 0).toNat (by omega)
  omega
end Go.Proofs.YtcpjkilnbhfpjaaDoor

namespace Go.Proofs.YtcpjkilnbhfpjaaDoor
open Go Go.RowKit

def sumL (l : List Int) : Nat := (l.map Int.toNat).sum
theorem sumL_set : ∀ (l : List Int) (i : Nat) (v : Int), i < l.length → sumL (l.set i v) + (l[i]?.getD 0).toNat = sumL l + v.toNat
  | x :: l, 0, v, _ => by simp [sumL]; omega
  | x :: l, i + 1, v, h => by
    have ih := sumL_set l i v (by simpa using h)
    simp only [sumL, List.set_cons_succ, List.map_cons, List.sum_cons, List.getElem?_cons_succ] at ih ⊢
    omega

/-- Each cell has a linked cell that is not greater. -/
structure PIn (B : Brd) (n : Nat) (out : List Int) : Prop where
  len : out.length = n
  val : ∀ x : Nat, x < n → ∃ p : Nat, p ≤ x ∧ out[x]?.getD 0 = p ∧ Linked B n p x

theorem PIn.start (B : Brd) (n : Nat) : PIn B n ((List.range n).map fun x => ((x : Nat) : Int)) :=
  ⟨by simp, fun x hx => ⟨x, Nat.le_refl _, by simp [hx], Linked.refl B n x⟩⟩

def agreeP (B : Brd) (out : List Int) (d c : Nat) : Prop := (B.next[d]?.getD [])[c]?.getD 0 < 0 ∨ out[((B.next[d]?.getD [])[c]?.getD 0).toNat]?.getD 0 = out[c]?.getD 0

theorem next_of {B : Brd} (hB : B.Ok) {n : Nat} (hn : B.cells = n) {d c : Nat} (hd : d < B.next.length) (hc : c < n) : nextS B d c = (B.next[d]?.getD [])[c]?.getD 0 := by
  rw [← toS_next hB hd c]
  exact toS_zero hB hd (by omega)

theorem link_of {B : Brd} (hB : B.Ok) {n : Nat} (hn : B.cells = n) {d c x : Nat} (hd : d < B.next.length) (hc : c < n) (hx : (B.next[d]?.getD [])[c]?.getD 0 = (x : Int)) : x < n ∧ Linked B n c x ∧ Linked B n x c := by
  have hnx := next_of hB hn hd hc
  rw [hx] at hnx
  have hr := nextS_range hB d c
  rw [hnx] at hr
  have hxn : x < n := by omega
  have hm : (x : Int) ∈ adjS B n c := (adj_mem hB hn hc _).2 (.inl ((mem_stepsS B c x).2 ⟨by omega, by
    unfold stepB
    rw [List.any_eq_true]
    exact ⟨d, List.mem_range.2 hd, by simpa using hnx⟩⟩))
  have h1 : Linked B n c x := ⟨1, .on .here hm⟩
  exact ⟨hxn, h1, h1.symm hB hn hc⟩

/-- One change. -/
theorem PIn.step {B : Brd} (hB : B.Ok) {n : Nat} (hn : B.cells = n) {out : List Int} (h : PIn B n out) {d c x : Nat} (hd : d < B.next.length) (hc : c < n) (hx : (B.next[d]?.getD [])[c]?.getD 0 = (x : Int)) (hne : ¬ out[x]?.getD 0 = out[c]?.getD 0) :
    PIn B n ((out.set x (min (out[x]?.getD 0) (out[c]?.getD 0))).set c (min (out[x]?.getD 0) (out[c]?.getD 0))) ∧ sumL ((out.set x (min (out[x]?.getD 0) (out[c]?.getD 0))).set c (min (out[x]?.getD 0) (out[c]?.getD 0))) < sumL out := by
  obtain ⟨hxn, hcx, hxc⟩ := link_of hB hn hd hc hx
  obtain ⟨p, hp1, hp2, hp3⟩ := h.val x hxn
  obtain ⟨q, hq1, hq2, hq3⟩ := h.val c hc
  have hl := h.len
  have hxc' : x ≠ c := fun e => hne (by rw [e])
  have hm : ∃ r : Nat, min (out[x]?.getD 0) (out[c]?.getD 0) = r ∧ r ≤ p ∧ r ≤ q ∧ Linked B n r x ∧ Linked B n r c := by
    rw [hp2, hq2]
    by_cases hpq : p ≤ q
    · exact ⟨p, by omega, Nat.le_refl _, hpq, hp3, hp3.trans hxc⟩
    · exact ⟨q, by omega, by omega, Nat.le_refl _, hq3.trans hcx, hq3⟩
  obtain ⟨r, hr, hrp, hrq, hrx, hrc⟩ := hm
  rw [hr]
  refine ⟨⟨by simp [hl], fun y hy => ?_⟩, ?_⟩
  · by_cases e1 : y = c
    · subst e1
      exact ⟨r, by omega, by rw [List.getElem?_set_self (by simp; omega), Option.getD_some], hrc⟩
    · rw [List.getElem?_set_ne (fun e => e1 e.symm)]
      by_cases e2 : y = x
      · subst e2
        exact ⟨r, by omega, by rw [List.getElem?_set_self (by omega), Option.getD_some], hrx⟩
      · rw [List.getElem?_set_ne (fun e => e2 e.symm)]
        exact h.val y hy
  · have s1 := sumL_set out x r (by omega)
    have s2 := sumL_set (out.set x r) c r (by simp; omega)
    rw [List.getElem?_set_ne hxc'] at s2
    rw [hp2] at s1
    rw [hq2] at s2
    rw [hp2, hq2] at hne
    have : p ≠ q := fun e => hne (by rw [e])
    omega

theorem agree_linked {B : Brd} (hB : B.Ok) {n : Nat} (hn : B.cells = n) {out : List Int} (hag : ∀ d, d < B.next.length → ∀ c, c < n → agreeP B out d c) {p x : Nat} (hp : p < n) (h : Linked B n p x) : out[x]?.getD 0 = out[p]?.getD 0 := by
  have hstep : ∀ a b : Nat, a < n → b < n → (b : Int) ∈ stepsS B a → out[b]?.getD 0 = out[a]?.getD 0 := by
    intro a b ha hb hm
    obtain ⟨_, hs⟩ := (mem_stepsS B a b).1 hm
    unfold stepB at hs
    rw [List.any_eq_true] at hs
    obtain ⟨d, hd, he⟩ := hs
    have hd' := List.mem_range.1 hd
    have he' : nextS B d a = b := by simpa using he
    rw [next_of hB hn hd' ha] at he'
    rcases hag d hd' a ha with h1 | h1
    · rw [he'] at h1; omega
    · rw [he', Int.toNat_natCast] at h1; exact h1
  obtain ⟨k, hk⟩ := h
  have key : ∀ (k : Nat) (z : Int), Steps (adjS B n) p k z → 0 ≤ z ∧ z < n ∧ out[z.toNat]?.getD 0 = out[p]?.getD 0 := by
    intro k z hz
    induction hz with
    | here => exact ⟨by omega, by omega, by rw [Int.toNat_natCast]⟩
    | @on k y z _ hy ih =>
      obtain ⟨y', rfl⟩ := Int.eq_ofNat_of_zero_le ih.1
      have hyn : y' < n := by omega
      have hzr := adj_lt hB hn y' hyn z hy
      obtain ⟨z', rfl⟩ := Int.eq_ofNat_of_zero_le hzr.1
      have hzn : z' < n := by omega
      rw [Int.toNat_natCast] at ih ⊢
      refine ⟨hzr.1, hzr.2, ?_⟩
      rcases (adj_mem hB hn hyn _).1 hy with h1 | ⟨j, hj, h1, h2⟩
      · rw [hstep y' z' hyn hzn h1]; exact ih.2.2
      · have : z' = j := Int.ofNat.inj h2
        subst this
        rw [← hstep z' y' hzn hyn h1]; exact ih.2.2
  have := (key k _ hk).2.2
  rwa [Int.toNat_natCast] at this

/-- Nothing changes: these are the parts. -/
theorem PIn.done {B : Brd} (hB : B.Ok) {n : Nat} (hn : B.cells = n) {out : List Int} (h : PIn B n out) (hag : ∀ d, d < B.next.length → ∀ c, c < n → agreeP B out d c) : out = partsS B := by
  apply List.ext_getElem
  · rw [h.len, parts_len hn]
  · intro x h1 h2
    have hx : x < n := by rw [h.len] at h1; exact h1
    obtain ⟨p0, a1, a2, a3, a4⟩ := parts_spec hB hn hx
    obtain ⟨p, c1, c2, c3⟩ := h.val x hx
    have hge : p0 ≤ p := by
      rcases Nat.lt_or_ge p p0 with hlt | hge
      · exact absurd c3 (a4 p hlt)
      · exact hge
    have hp0 : p0 < n := by omega
    have he := agree_linked hB hn hag hp0 a3
    obtain ⟨p', d1, d2, _⟩ := h.val p0 hp0
    have : p = p' := by
      have : (p : Int) = p' := by rw [← c2, he, d2]
      exact Int.ofNat.inj this
    have hpe : p = p0 := by omega
    rw [List.getElem?_eq_getElem h1, Option.getD_some] at c2
    rw [List.getElem?_eq_getElem h2, Option.getD_some] at a2
    rw [c2, a2, hpe]
end Go.Proofs.YtcpjkilnbhfpjaaDoor

namespace Go.Proofs.YtcpjkilnbhfpjaaDoor
open Go Go.RowKit Go.Shelf

theorem Chain.snoc {B : Brd} (hB : B.Ok) {dd c : Int} {pre : List Int} (h : Chain B dd c pre) (hx : ¬ nextS B dd (atS c pre pre.length) < 0) (hxc : ¬ nextS B dd (atS c pre pre.length) = c) (hxp : ¬ nextS B dd (atS c pre pre.length) ∈ pre) :
    Chain B dd c (pre ++ [nextS B dd (atS c pre pre.length)]) ∧ atS c (pre ++ [nextS B dd (atS c pre pre.length)]) (pre ++ [nextS B dd (atS c pre pre.length)]).length = nextS B dd (atS c pre pre.length) ∧ (pre.length : Int) + 1 ≤ B.cells := by
  have hr := nextS_range hB dd (atS c pre pre.length)
  have hcr : 0 ≤ c ∧ c < B.cells := by
    by_cases e : pre = []
    · subst e
      exact hr.2.2 (by omega)
    · have hs := h.step 0 (List.length_pos_iff.2 e)
      have hm : pre[0]?.getD 0 ∈ pre := by
        have h0 := List.length_pos_iff.2 e
        rw [List.getElem?_eq_getElem h0, Option.getD_some]
        exact List.getElem_mem h0
      have h2 := h.rng _ hm
      have h3 := nextS_range hB dd (atS c pre 0)
      rw [← hs] at h3
      exact h3.2.2 h2.1
  refine ⟨⟨?_, ?_, ?_⟩, ?_, h.short hcr⟩
  · have hn := h.nodup
    rw [← List.cons_append]
    refine List.nodup_append.2 ⟨hn, by simp, ?_⟩
    intro a ha b hb e
    rw [List.mem_singleton.1 hb] at e
    subst e
    rcases List.mem_cons.1 ha with e | e
    · exact hxc e
    · exact hxp e
  · intro x hx
    rcases List.mem_append.1 hx with hx | hx
    · exact h.rng x hx
    · rw [List.mem_singleton.1 hx]; omega
  · intro i hi
    rw [List.length_append, List.length_singleton] at hi
    by_cases e : i = pre.length
    · subst e
      rw [List.getElem?_concat_length, Option.getD_some]
      unfold atS
      rw [← List.cons_append, List.getElem?_append_left (by simp)]
    · rw [List.getElem?_append_left (by omega), h.step i (by omega)]
      unfold atS
      rw [← List.cons_append, List.getElem?_append_left (by simp; omega)]
  · unfold atS
    rw [List.length_append, List.length_singleton, List.getElem?_cons_succ, List.getElem?_concat_length, Option.getD_some]

def slLen : Value → Nat
  | .slice _ n _ => n
  | _ => 0

set_option maxRecDepth 100000 in
set_option maxHeartbeats 2000000 in
theorem refLine_any (B : Brd) (hB : B.Ok) (an at_ : Option Addr) (cn ct : Nat) (side d c : Int) (w : World) (hH : Held w.heap.size w an at_ B) :
    Calls Tryd.prog 17 #[B.val an cn at_ ct, .int .i64 side, .int .i64 d, .int .i64 c] w fun e w' => ∃ v, e = .returned v ∧ OwnInts w.heap.size w' v (lineOf B side d c) ∧ Below w.heap.size w w' := by
  have hhi := hB.hi
  have y0 := InBox.new cn ct hH
  have hbw0 : Below w.heap.size w (w.alloc (.cells #[.int .i64 B.cells, .slice an B.next.length cn, .slice at_ B.turn.length ct] 31)) := below_alloc (Below.refl _ _) _
  clear hH
  go_enter Tryd.func17, Tryd.ntmps17
  obtain ⟨c0, c1, c2, _⟩ := id y0
  go_wp2_with fail
  clear c0 c1 c2
  have hbs : w.heap.size < (w.alloc (.cells #[.int .i64 B.cells, .slice an B.next.length cn, .slice at_ B.turn.length ct] 31)).heap.size := by rw [World.size_alloc]; omega
  have hsz : (w.alloc (.cells #[.int .i64 B.cells, .slice an B.next.length cn, .slice at_ B.turn.length ct] 31)).heap.size = w.heap.size + 1 := World.size_alloc _ _
  generalize w.alloc (.cells #[.int .i64 B.cells, .slice an B.next.length cn, .slice at_ B.turn.length ct] 31) = w1 at *
  have hown := own_empty w1
  have hb2 : Below w1.heap.size w1 (w1.alloc (.cells #[] 3)) := (Below.refl _ _).alloc (Nat.le_refl _) _
  generalize hb1 : w.heap.size = b1 at *
  generalize w1.alloc (.cells #[] 3) = w2 at *
  have HB1 := Lib.hid hb1
  rw [hsz] at hown
  have HSZ := Lib.hid hsz
  clear hb1 hsz
  obtain ⟨dd, hdd⟩ : ∃ dd, dd = meantS B.turn side d := ⟨_, rfl⟩
  have hto : ∀ x, toS B side d x = nextS B dd x := fun x => by rw [hdd]; rfl
  have hst : lineOf B side d c = lineTo B dd c 64 [] c := by rw [hdd]; rfl
  have HTO := Lib.hid hto
  have HST := Lib.hid hst
  clear hto hst hdd
  refine (refTo_any B hB an at_ cn ct side d c _ w2 (Nat.le_refl _) (y0.up hb2).held).mono ?_
  rintro e w3 ⟨rfl, hb3⟩
  rw [HTO.out]
  replace hown := hown.alters (S := fun _ => False) (Alters.of_below hb3) (fun _ h => h.elim)
  replace hb2 := below_step hb2 hb3
  clear hb3
  go_wp2_with fail
  go_loopw [9, 10] (fun o i wr => ∃ (pre : List Int) (k : Nat), k + pre.length = 64 ∧ i = .int .i64 (nextS B dd (atS c pre pre.length)) ∧ Chain B dd c pre ∧ Hid (lineOf B side d c = lineTo B dd c k pre (atS c pre pre.length)) ∧ OwnInts w1.heap.size wr o pre ∧ Below w1.heap.size w1 wr)
    (fun o _ _ => 64 - slLen o)
  case atStart => exact ⟨[], 64, rfl, rfl, ⟨by simp, by simp, by simp⟩, HST, by rw [HSZ.out]; exact hown, hb2⟩
  case round =>
    clear hown hb2
    obtain ⟨pre, k, hk, rfl, hch, hlo, ho, hbi⟩ := hrel
    have y := y0.up hbi
    obtain ⟨c0, c1, c2, hH⟩ := id y
    have hsn := hch.snoc hB
    have hstop := lineTo_stop B dd c k pre (atS c pre pre.length)
    have hgo := fun k' => lineTo_go B dd c k' pre (atS c pre pre.length)
    generalize nextS B dd (atS c pre pre.length) = x at hsn hstop hgo ⊢
    have HL := Lib.hid hk
    have hkl : pre.length ≤ 64 := by omega
    clear hk
    by_cases hx0 : x < 0
    · have HO := Lib.hid (hlo.out.trans (hstop (.inl hx0)))
      have t1 : decide (0 ≤ x) = false := by simp; omega
      clear hsn hstop hgo hch
      go_wp2
      go_ret
      rw [HB1.out, HO.out]
      exact ⟨_, rfl, OwnInts.mono ho (Nat.le_of_lt hbs), hbw0.trans (hbi.mono (Nat.le_of_lt hbs))⟩
    · have t1 : decide (0 ≤ x) = true := by simp; omega
      by_cases hxc : x = c
      · have HO := Lib.hid (hlo.out.trans (hstop (.inr (.inl hxc))))
        have t2 : (x != c) = false := by simpa using hxc
        have t3 : decide (x = c) = true := by simpa using hxc
        have t4 : (x == c) = true := by simpa using hxc
        clear hsn hstop hgo hch hxc
        go_wp2
        go_ret
        rw [HB1.out, HO.out]
        exact ⟨_, rfl, OwnInts.mono ho (Nat.le_of_lt hbs), hbw0.trans (hbi.mono (Nat.le_of_lt hbs))⟩
      · have t2 : (x != c) = true := by simpa using hxc
        have t3 : decide (x = c) = false := by simpa using hxc
        have t4 : (x == c) = false := by simpa using hxc
        obtain ⟨a9, cap9, rfl, hI⟩ := OwnInts.ints ho
        have HCH := Lib.hid hch
        have HSN := Lib.hid (hsn hx0 hxc)
        have HSTOP := Lib.hid hstop
        have HGO := Lib.hid hgo
        have HXC := Lib.hid hxc
        have HX0 := Lib.hid hx0
        clear hsn hstop hgo hch hxc
        go_wp2_with fail
        refine (has_any pre x a9 cap9 _ wr (by omega) hI).mono ?_
        rintro e w4 ⟨rfl, rfl⟩
        by_cases hm : x ∈ pre
        · have t5 : decide (x ∈ pre) = true := by simpa using hm
          have HO := Lib.hid (hlo.out.trans (HSTOP.out (.inr (.inr hm))))
          rw [t5]
          clear t5 hm
          go_wp2
          go_ret
          rw [HB1.out, HO.out]
          exact ⟨_, rfl, OwnInts.mono ho (Nat.le_of_lt hbs), hbw0.trans (hbi.mono (Nat.le_of_lt hbs))⟩
        · have t5 : decide (x ∈ pre) = false := by simpa using hm
          rw [t5]
          obtain ⟨g1, g2, g3⟩ := HSN.out hm
          have hk1 : 1 ≤ k := by have := HL.out; omega
          obtain ⟨k', rfl⟩ : ∃ k', k = k' + 1 := ⟨k - 1, by omega⟩
          have hg : lineOf B side d c = lineTo B dd c k' (pre ++ [x]) (atS c (pre ++ [x]) (pre ++ [x]).length) := by
            rw [g2]
            exact hlo.out.trans (HGO.out k' (by rintro (h | h | h); have := HX0.out; omega; exact HXC.out h; exact hm h))
          have HG := Lib.hid hg
          have HG1 := Lib.hid g1
          have HG2 := Lib.hid g2
          have HPL := Lib.hid (show pre.length < 64 by omega)
          clear t5 hm hg g1 g2 g3 hI hk1 hkl
          have hAB : Below w4.heap.size w4 (w4.alloc (.cells #[.int .i64 x] 3)) := (Below.refl _ _).alloc (Nat.le_refl _) _
          have HNA := Lib.hid (ho.alters (S := fun _ => False) (Alters.of_below hAB) (fun _ h => h.elim))
          have HN := Lib.hid ho
          clear ho c0 c1 c2 hH
          go_wp2_with (at_builtin; go_loud (refine wpList_push rfl (.tmp 35) (.tmp 37) rfl w1.heap.size _ pre rfl HNA.out (by have := HPL.out; omega) (Nat.le_trans hbi.size hAB.size) ⟨w4.heap.size, 0, none⟩ x rfl (cell_new_at _ _ _ _ _ _ rfl rfl) ?_; intro g6 cap6 w6 hown6 hg6 hat6); have hb6 := push_below hbi hAB hbi.size HN.out hg6; clear hat6 hAB HNA HN hg6; have y6 := y0.up hb6; obtain ⟨c0, c1, c2, hH⟩ := id y6)
          refine (refTo_any B hB an at_ cn ct side d x _ w6 (Nat.le_refl _) hH).mono ?_
          rintro e w7 ⟨rfl, hb7⟩
          rw [HTO.out]
          replace hown6 := hown6.alters (S := fun _ => False) (Alters.of_below hb7) (fun _ h => h.elim)
          replace hb6 := below_step hb6 hb7
          clear hb7 c0 c1 c2 hH
          go_wp2
          go_roundw
          case rel => exact ⟨pre ++ [x], k', by have := HL.out; simp; omega, by rw [HG2.out], HG1.out, HG, hown6, hb6⟩
          case measure => simp [slLen]; have := HPL.out; omega
end Go.Proofs.YtcpjkilnbhfpjaaDoor

namespace Go.Proofs.YtcpjkilnbhfpjaaDoor
open Go Go.RowKit Go.Shelf

/-- A whole list is appended to one of the call's own. -/
theorem step_append_all {w : World} {ops : Array Oper} {o : Oper} {a : Act} {K : Act → World → Prop} {Q : Exit → Act → World → Prop} {E : Prop} (hgd : o.guard = none) (s y : Operand)
    (ho : o.op = .call { callee := .builtin .append, args := #[s, y], argTypes := #[29, 29] }) (n : Nat) (v : Value) (l : List Int) (hs : a.eval s = v) (h : OwnInts n w v l) (hl : l.length < 2000) (hn : n ≤ w.heap.size)
    (b off c : Nat) (l2 : List Int) (hy : a.eval y = .slice (some ⟨b, off, none⟩) l2.length c) (hl2 : l2.length < 2000) (hx : ∀ j, j < l2.length → w.cell? ⟨b, off + j, none⟩ = some (.int .i64 (l2[j]?.getD 0)))
    (hK : ∀ v' w', OwnInts n w' v' (l ++ l2) → w.grownBy w' v.ownBlock → (v'.ownBlock = v.ownBlock ∨ v'.ownBlock = some w.heap.size) → K (a.put o.dst v') w') :
    if Region.wanted o (yielded ops a.tmps) = true then Oper.wp Tryd.prog o a w K Q else E := by
  have hw : Region.wanted o (yielded ops a.tmps) = true := by simp [Region.wanted, hgd]
  rw [if_pos hw]
  obtain ⟨i0, hi, hz0, hz1, hz2⟩ := info_parts (show (Tryd.prog.info? 3).map (fun i => (i.zero, i.size, i.bytes)) = some (some (.int .i64 0), 1, 8) by kernel_rfl)
  obtain ⟨v', w', hr, h2, h3, _, h5⟩ := run_append_own_at (P := Tryd.prog) w n 29 o.type 3 i0 (.int .i64 0) 1 8 Tryd.underlying29 hi hz0 hz1 hz2 rfl (by decide) v l.length (l.map (Value.int .i64)) h ⟨b, off, none⟩ l2.length c (l2.map (Value.int .i64)) (by simp)
    (by intro j u hj
        have hjl : j < l2.length := by have := (List.getElem?_eq_some_iff.1 hj).1; simpa using this
        have e : (⟨b, off, none⟩ : Addr).add j = ⟨b, off + j, none⟩ := by by_cases h : j = 0 <;> simp [Addr.add, h]
        rw [e, hx j hjl, ← hj]
        simp [hjl]) (by simp [Value.oneCell']) (by unfold maxLen; omega) (by omega) hn
  unfold Oper.wp
  simp [execOp, ho, resolve, invoke, builtin, hs, hy, hr, Result.andThen]
  refine hK v' w' ⟨by simp, ?_⟩ h3 h5
  have := h2.2
  simpa using this

theorem wo_first {h : Nat} {w1 w2 : World} {v : Value} {l : List Int} (ho : OwnInts w1.heap.size w2 v l) (h1 : 1 ≤ l.length) : ∃ g ct, v = .slice (some ⟨g, 0, none⟩) l.length ct ∧ w1.heap.size ≤ g ∧ g < w2.heap.size ∧ h = h := by
  rcases ho.form with ⟨_, h0⟩ | ⟨g, cap, rfl, hg, hl⟩
  · rw [h0] at h1; simp at h1
  · exact ⟨g, cap, rfl, hg, hl, rfl⟩

theorem refWo_bad (n : Int) (x y : Value) (c : Int) (w : World) (hc : c < 0 ∨ n ≤ c) :
    Calls Tryd.prog 21 #[.agg #[.int .i64 n, x, y], .int .i64 c] w fun e W' => e = .returned (.tuple #[.agg #[.int .i64 0, .slice none 0 0, .slice none 0 0], .int .i64 1]) ∧ Below w.heap.size w W' := by
  by_cases h0 : c < 0
  · go_enter Tryd.func21, Tryd.ntmps21
    go_wp2
    refine bodyPost_ret_by (v := .tuple #[.agg #[.int .i64 0, .slice none 0 0, .slice none 0 0], .int .i64 1]) (by rw [results_cell_tmp rfl]; go_simp) rfl ?_
    exact ⟨rfl, by (repeat (first | exact Below.refl _ _ | assumption | refine below_alloc ?_ _ | refine Below.drew ?_ | refine below_drewN_ ?_ _ | refine below_step ?_ (by assumption)))⟩
  · have t0 : decide (c < 0) = false := by simpa using h0
    have t1 : decide (n ≤ c) = true := by simp; omega
    go_enter Tryd.func21, Tryd.ntmps21
    go_wp2
    refine bodyPost_ret_by (v := .tuple #[.agg #[.int .i64 0, .slice none 0 0, .slice none 0 0], .int .i64 1]) (by rw [results_cell_tmp rfl]; go_simp) rfl ?_
    exact ⟨rfl, by (repeat (first | exact Below.refl _ _ | assumption | refine below_alloc ?_ _ | refine Below.drew ?_ | refine below_drewN_ ?_ _ | refine below_step ?_ (by assumption)))⟩

def woEnt (c : Int) (r : List Int) (j : Nat) : Int := if (j : Int) = c ∨ r[j]?.getD 0 = c then -1 else r[j]?.getD 0
theorem woEnt_row (c : Int) (r : List Int) : (List.range r.length).map (woEnt c r) = outRow c r := by
  apply List.ext_getElem
  · simp [outRow_len]
  · intro j h1 h2
    have hj : j < r.length := by simpa using h1
    have := outRow_get c r hj
    rw [List.getElem?_eq_getElem h2, Option.getD_some] at this
    rw [this]
    simp [woEnt]
theorem woEnt_succ (c : Int) (r : List Int) (k : Nat) : (List.range (k + 1)).map (woEnt c r) = (List.range k).map (woEnt c r) ++ [woEnt c r k] := by simp [List.range_succ]

set_option maxRecDepth 100000 in
set_option maxHeartbeats 4000000 in
theorem refWo_any (B : Brd) (hB : B.Ok) (ht1 : 1 ≤ B.turn.length) (an at_ : Option Addr) (cn ct : Nat) (c : Int) (hc0 : 0 ≤ c) (hcn : c < B.cells) (w : World) (hH : Held w.heap.size w an at_ B) :
    Calls Tryd.prog 21 #[B.val an cn at_ ct, .int .i64 c] w fun e W' => ∃ an' cn' at' ct', e = .returned (.tuple #[(withoutS B c).val an' cn' at' ct', .int .i64 0]) ∧ Held W'.heap.size W' an' at' (withoutS B c) ∧ Below w.heap.size w W' := by
  have hlo := hB.lo
  have hhi := hB.hi
  have hdirs := hB.dirs
  have htl : B.turn.length ≤ 8 := by have := hB.turn; omega
  have t0 : decide (c < 0) = false := by simp; omega
  have t1 : decide (B.cells ≤ c) = false := by simp; omega
  have y0 := (InBox.new cn ct hH).up (below_alloc (Below.refl _ _) (.cells #[.int .i64 0, .slice none 0 0, .slice none 0 0] 31))
  have k4 : ((w.alloc (.cells #[.int .i64 B.cells, .slice an B.next.length cn, .slice at_ B.turn.length ct] 31)).alloc (.cells #[.int .i64 0, .slice none 0 0, .slice none 0 0] 31)).heap[w.heap.size + 1]? = some (.cells #[.int .i64 0, .slice none 0 0, .slice none 0 0] 31 (0, 0)) := by
    have := World.alloc_heap_new (w.alloc (.cells #[.int .i64 B.cells, .slice an B.next.length cn, .slice at_ B.turn.length ct] 31)) (.cells #[.int .i64 0, .slice none 0 0, .slice none 0 0] 31)
    rw [World.size_alloc] at this
    exact this
  have hb1 : Below w.heap.size w ((w.alloc (.cells #[.int .i64 B.cells, .slice an B.next.length cn, .slice at_ B.turn.length ct] 31)).alloc (.cells #[.int .i64 0, .slice none 0 0, .slice none 0 0] 31)) := by (repeat (first | exact Below.refl _ _ | assumption | refine below_alloc ?_ _ | refine Below.drew ?_ | refine below_drewN_ ?_ _ | refine below_step ?_ (by assumption)))
  have hs1 : ((w.alloc (.cells #[.int .i64 B.cells, .slice an B.next.length cn, .slice at_ B.turn.length ct] 31)).alloc (.cells #[.int .i64 0, .slice none 0 0, .slice none 0 0] 31)).heap.size = w.heap.size + 2 := by simp
  obtain ⟨bt, ot, hat, hbt, _⟩ := hH.2.at_ (j := 0) (by omega)
  have hIt := hH.2
  subst hat
  obtain ⟨c0, c1, c2, _⟩ := id y0
  clear hH
  go_enter Tryd.func21, Tryd.ntmps21
  go_upto_region 3 with (fail)
  have hIt1 := (hIt.up (Nat.le_refl _) hb1)
  clear hIt c1
  generalize (w.alloc (.cells #[.int .i64 B.cells, .slice an B.next.length cn, .slice (some ⟨bt, ot, none⟩) B.turn.length ct] 31)).alloc (.cells #[.int .i64 0, .slice none 0 0, .slice none 0 0] 31) = w1 at *
  have HS1 := Lib.hid hs1
  have hs1' : w.heap.size + 2 ≤ w1.heap.size := by omega
  clear hs1
  go_cut [6] (fun s6 wx => ∃ (Bo : Nat) (tv : Value), s6 = .pointer (some ⟨Bo, 0, none⟩) ∧ Bld w1.heap.size Bo B.cells wx (.slice none 0 0) tv [] B.turn [] ∧ Below w1.heap.size w1 wx ∧ w1.heap.size ≤ Bo)
  case first =>
    have hxx : ∀ W : World, Below w1.heap.size w1 W → ∀ j, j < B.turn.length → W.cell? ⟨bt, ot + j, none⟩ = some (.int .i64 (B.turn[j]?.getD 0)) := fun W hW j hj => by
      obtain ⟨b, off, e, _, h⟩ := (hIt1.up (by omega) hW).at_ hj
      cases e
      exact h
    refine wp_region_held_drew (S := fun w' => w'.cell? ⟨w.heap.size, 0, none⟩ = some (.int .i64 B.cells) ∧ w'.cell? ⟨w.heap.size, 2, none⟩ = some (.slice (some ⟨bt, ot, none⟩) B.turn.length ct)) (by kernel_rfl) ⟨c0, c2⟩ (fun hHeld => ?_)
    refine wpAnyH_take (i := 0) (oi := { dst := some 20, op := Op.fieldAddr 31 (Operand.tmp 2) 0, type := 0, pos := "ref.go:163", after := #[], guard := none }) (v := ?_) rfl (by kernel_rfl) (by kernel_rfl) (by kernel_rfl) (fun _ _ _ h => h) (Or.inl ⟨by rfl, ?_⟩) (by assumption) ?_
    rotate_left
    · ((intro w hSw; (try dsimp only at hSw); go_simp); try with_reducible rfl)
    (try simp only [Act.put, List.setIfInBounds_toArray, List.set_cons_zero, List.set_cons_succ])
    refine wpAnyH_take (i := 1) (oi := { dst := some 21, op := Op.load 3 (Operand.tmp 20), type := 3, pos := "ref.go:163", after := #[{ on := 0, ground := Ground.data }], guard := none }) (v := ?_) rfl (by kernel_rfl) (by kernel_rfl) (by kernel_rfl) (fun _ _ _ h => h) (Or.inl ⟨by rfl, ?_⟩) (by assumption) ?_
    rotate_left
    · ((intro w hSw; (try dsimp only at hSw); go_simp); try with_reducible rfl)
    (try simp only [Act.put, List.setIfInBounds_toArray, List.set_cons_zero, List.set_cons_succ])
    refine wpAnyH_take (i := 3) (oi := { dst := some 23, op := Op.fieldAddr 31 (Operand.tmp 2) 2, type := 0, pos := "ref.go:163", after := #[], guard := none }) (v := ?_) rfl (by kernel_rfl) (by kernel_rfl) (by kernel_rfl) (fun _ _ _ h => h) (Or.inl ⟨by rfl, ?_⟩) (by assumption) ?_
    rotate_left
    · ((intro w hSw; (try dsimp only at hSw); go_simp); try with_reducible rfl)
    (try simp only [Act.put, List.setIfInBounds_toArray, List.set_cons_zero, List.set_cons_succ])
    refine wpAnyH_take (i := 4) (oi := { dst := some 24, op := Op.load 29 (Operand.tmp 23), type := 29, pos := "ref.go:163", after := #[{ on := 3, ground := Ground.data }], guard := none }) (v := ?_) rfl (by kernel_rfl) (by kernel_rfl) (by kernel_rfl) (fun _ _ _ h => h) (Or.inl ⟨by rfl, ?_⟩) (by assumption) ?_
    rotate_left
    · ((intro w hSw; (try dsimp only at hSw); go_simp); try with_reducible rfl)
    (try simp only [Act.put, List.setIfInBounds_toArray, List.set_cons_zero, List.set_cons_succ])
    refine wpAnyH_ready (rs := [2, 7]) (by kernel_rfl) (by simp) ?_
    refine AllReadyH.cons (o := { dst := some 22, op := Op.buildSlice 29 0 #[], type := 29, pos := "ref.go:163", after := #[], guard := none }) rfl (fun K hK => ?_) (AllReadyH.cons (o := { dst := some 6, op := Op.alloc 31, type := 0, pos := "ref.go:163", after := #[], guard := none }) rfl (fun K hK => ?_) AllReadyH.nil)
    · go_simp
      refine hK.out _ _ ⟨cell_alloc_keep hHeld.1 _, cell_alloc_keep hHeld.2 _⟩ (fun hS3 => ?_)
      clear hK K
      (try simp only [Act.put, List.setIfInBounds_toArray, List.set_cons_zero, List.set_cons_succ])
      refine wpAnyH_ready (rs := [5, 7]) (by kernel_rfl) (by simp) ?_
      refine AllReadyH.cons (o := { dst := some 25, op := Op.call { callee := Callee.builtin Builtin.append, args := #[Operand.tmp 22, Operand.tmp 24], argTypes := #[29, 29] }, type := 29, pos := "ref.go:163", after := #[{ on := 2, ground := Ground.data }, { on := 4, ground := Ground.data }], guard := none }) rfl (fun K hK => ?_) (AllReadyH.cons (o := { dst := some 6, op := Op.alloc 31, type := 0, pos := "ref.go:163", after := #[], guard := none }) rfl (fun K hK => ?_) AllReadyH.nil)
      · have hownE : OwnInts w1.heap.size (w1.alloc (.cells #[] 3)).drew (.slice (some ⟨w1.heap.size, 0, none⟩) 0 0) [] := own_empty w1
        have hbE : Below w1.heap.size w1 (w1.alloc (.cells #[] 3)).drew := by (repeat (first | exact Below.refl _ _ | assumption | refine below_alloc ?_ _ | refine Below.drew ?_ | refine below_drewN_ ?_ _ | refine below_step ?_ (by assumption)))
        refine step_append_all rfl (.tmp 22) (.tmp 24) rfl w1.heap.size (.slice (some ⟨w1.heap.size, 0, none⟩) 0 0) [] rfl hownE (by simp) hbE.size bt ot ct B.turn rfl (by omega) (hxx _ hbE) ?_
        intro v2 w2 hown2 hg2 _
        rw [List.nil_append] at hown2
        obtain ⟨ov, cv, rfl, _⟩ := OwnInts.places hown2
        have hb2 : Below w1.heap.size w1 w2 := push_below hbE (Below.refl _ _) hbE.size hownE hg2
        have hS5 := And.intro (cell_keep hb2 c0) (cell_keep hb2 c2)
        refine hK.out _ _ hS5 (fun _ => ?_)
        clear hK K
        (try simp only [Act.put, List.setIfInBounds_toArray, List.set_cons_zero, List.set_cons_succ])
        refine wpAnyH_take (i := 6) (oi := { dst := some 26, op := Op.build 31 #[(0, Operand.tmp 21), (2, Operand.tmp 25)], type := 31, pos := "ref.go:163", after := #[{ on := 1, ground := Ground.data }, { on := 5, ground := Ground.data }], guard := none }) (v := ?_) rfl (by kernel_rfl) (by kernel_rfl) (by kernel_rfl) (fun _ _ _ h => h) (Or.inl ⟨by rfl, ?_⟩) (by assumption) ?_
        rotate_left
        · ((intro w hSw; (try dsimp only at hSw); go_simp); try with_reducible rfl)
        (try simp only [Act.put, List.setIfInBounds_toArray, List.set_cons_zero, List.set_cons_succ])
        refine wpAnyH_ready (rs := [7]) (by kernel_rfl) (by simp) ?_
        refine AllReadyH.cons (o := { dst := some 6, op := Op.alloc 31, type := 0, pos := "ref.go:163", after := #[], guard := none }) rfl (fun K hK => ?_) AllReadyH.nil
        go_simp
        refine hK.out _ _ ⟨cell_alloc_keep hS5.1 _, cell_alloc_keep hS5.2 _⟩ (fun hS3 => ?_)
        clear hK K
        (try simp only [Act.put, List.setIfInBounds_toArray, List.set_cons_zero, List.set_cons_succ])
        refine wpAnyH_ready (rs := [8]) (by kernel_rfl) (by simp) ?_
        refine AllReadyH.cons (o := { dst := none, op := Op.store 31 (Operand.tmp 6) (Operand.tmp 26), type := 0, pos := "ref.go:163", after := #[{ on := 7, ground := Ground.data }, { on := 6, ground := Ground.data }, { on := 5, ground := Ground.chain }, { on := 0, ground := Ground.phase }, { on := 1, ground := Ground.phase }, { on := 2, ground := Ground.phase }, { on := 3, ground := Ground.phase }, { on := 4, ground := Ground.phase }, { on := 5, ground := Ground.phase }, { on := 6, ground := Ground.phase }, { on := 7, ground := Ground.phase }], guard := none }) rfl (fun K hK => ?_) AllReadyH.nil
        go_simp
        refine hK.out _ _ ⟨cell_alloc_keep hS5.1 _, cell_alloc_keep hS5.2 _⟩ (fun _ => ?_)
        clear hK K
        (try simp only [Act.put, List.setIfInBounds_toArray, List.set_cons_zero, List.set_cons_succ])
        refine wpAnyH_done (by kernel_rfl) ?_ _
        go_wp2_with fail; go_meet
        have hX : (w2.alloc (.cells #[.int .i64 B.cells, .slice none 0 0, .slice ov B.turn.length cv] 31)).heap[w2.heap.size]? = some (.cells #[.int .i64 B.cells, .slice none 0 0, .slice ov B.turn.length cv] 31 (0, 0)) := World.alloc_heap_new _ _
        exact ⟨w2.heap.size, .slice ov B.turn.length cv, rfl, ⟨hX, RowsN.nil _ _, World.ownsRow.alloc hown2 _, fun _ _ v hv => by simp at hv⟩, below_alloc hb2 _, hb2.size⟩
      · go_simp
        refine hK.out _ _ ⟨cell_alloc_keep hS3.1 _, cell_alloc_keep hS3.2 _⟩ (fun hS3 => ?_)
        clear hK K
        (try simp only [Act.put, List.setIfInBounds_toArray, List.set_cons_zero, List.set_cons_succ])
        refine wpAnyH_ready (rs := [5]) (by kernel_rfl) (by simp) ?_
        refine AllReadyH.cons (o := { dst := some 25, op := Op.call { callee := Callee.builtin Builtin.append, args := #[Operand.tmp 22, Operand.tmp 24], argTypes := #[29, 29] }, type := 29, pos := "ref.go:163", after := #[{ on := 2, ground := Ground.data }, { on := 4, ground := Ground.data }], guard := none }) rfl (fun K hK => ?_) AllReadyH.nil
        have hownE : OwnInts w1.heap.size ((w1.alloc (.cells #[] 3)).alloc (.cells #[.int .i64 0, .slice none 0 0, .slice none 0 0] 31)).drew (.slice (some ⟨w1.heap.size, 0, none⟩) 0 0) [] := World.ownsRow.alloc (own_empty w1) _
        have hbE : Below w1.heap.size w1 ((w1.alloc (.cells #[] 3)).alloc (.cells #[.int .i64 0, .slice none 0 0, .slice none 0 0] 31)).drew := by (repeat (first | exact Below.refl _ _ | assumption | refine below_alloc ?_ _ | refine Below.drew ?_ | refine below_drewN_ ?_ _ | refine below_step ?_ (by assumption)))
        have hxE : ((w1.alloc (.cells #[] 3)).alloc (.cells #[.int .i64 0, .slice none 0 0, .slice none 0 0] 31)).drew.heap[w1.heap.size + 1]? = some (.cells #[.int .i64 0, .slice none 0 0, .slice none 0 0] 31 (0, 0)) := by
          have := World.alloc_heap_new (w1.alloc (.cells #[] 3)) (.cells #[.int .i64 0, .slice none 0 0, .slice none 0 0] 31)
          rw [World.size_alloc] at this
          exact this
        refine step_append_all rfl (.tmp 22) (.tmp 24) rfl w1.heap.size (.slice (some ⟨w1.heap.size, 0, none⟩) 0 0) [] rfl hownE (by simp) hbE.size bt ot ct B.turn rfl (by omega) (hxx _ hbE) ?_
        intro v2 w2 hown2 hg2 _
        rw [List.nil_append] at hown2
        obtain ⟨ov, cv, rfl, _⟩ := OwnInts.places hown2
        have hb2 : Below w1.heap.size w1 w2 := push_below hbE (Below.refl _ _) hbE.size hownE hg2
        have hS5 := And.intro (cell_keep hb2 c0) (cell_keep hb2 c2)
        refine hK.out _ _ hS5 (fun _ => ?_)
        clear hK K
        (try simp only [Act.put, List.setIfInBounds_toArray, List.set_cons_zero, List.set_cons_succ])
        have hh2 := (hg2.block (w1.heap.size + 1) (Array.getElem?_eq_some_iff.1 hxE).1 (by simp [Value.ownBlock])).trans hxE
        have hBlt : (w1.heap.size + 1) < w2.heap.size := (Array.getElem?_eq_some_iff.1 hh2).1
        have hz0 : w2.cell? ⟨(w1.heap.size + 1), 0, none⟩ = some (.int .i64 0) := by unfold World.cell?; rw [hh2]; rfl
        have hz1 : w2.cell? ⟨(w1.heap.size + 1), 1, none⟩ = some (.slice none 0 0) := by unfold World.cell?; rw [hh2]; rfl
        have hz2 : w2.cell? ⟨(w1.heap.size + 1), 2, none⟩ = some (.slice none 0 0) := by unfold World.cell?; rw [hh2]; rfl
        have hf0 : w2.frozen? ⟨(w1.heap.size + 1), 0, none⟩ = false := by unfold World.frozen?; rw [hh2]; simp
        have hf1 : w2.frozen? ⟨(w1.heap.size + 1), 1, none⟩ = false := by unfold World.frozen?; rw [hh2]; simp
        have hf2 : w2.frozen? ⟨(w1.heap.size + 1), 2, none⟩ = false := by unfold World.frozen?; rw [hh2]; simp
        refine wpAnyH_take (i := 6) (oi := { dst := some 26, op := Op.build 31 #[(0, Operand.tmp 21), (2, Operand.tmp 25)], type := 31, pos := "ref.go:163", after := #[{ on := 1, ground := Ground.data }, { on := 5, ground := Ground.data }], guard := none }) (v := ?_) rfl (by kernel_rfl) (by kernel_rfl) (by kernel_rfl) (fun _ _ _ h => h) (Or.inl ⟨by rfl, ?_⟩) (by assumption) ?_
        rotate_left
        · ((intro w hSw; (try dsimp only at hSw); go_simp); try with_reducible rfl)
        (try simp only [Act.put, List.setIfInBounds_toArray, List.set_cons_zero, List.set_cons_succ])
        refine wpAnyH_ready (rs := [8]) (by kernel_rfl) (by simp) ?_
        refine AllReadyH.cons (o := { dst := none, op := Op.store 31 (Operand.tmp 6) (Operand.tmp 26), type := 0, pos := "ref.go:163", after := #[{ on := 7, ground := Ground.data }, { on := 6, ground := Ground.data }, { on := 5, ground := Ground.chain }, { on := 0, ground := Ground.phase }, { on := 1, ground := Ground.phase }, { on := 2, ground := Ground.phase }, { on := 3, ground := Ground.phase }, { on := 4, ground := Ground.phase }, { on := 5, ground := Ground.phase }, { on := 6, ground := Ground.phase }, { on := 7, ground := Ground.phase }], guard := none }) rfl (fun K hK => ?_) AllReadyH.nil
        go_simp
        have hX : (((w2.setCell ⟨(w1.heap.size + 1), 0, none⟩ (.int .i64 B.cells)).setCell ⟨(w1.heap.size + 1), 1, none⟩ (.slice none 0 0)).setCell ⟨(w1.heap.size + 1), 2, none⟩ (.slice ov B.turn.length cv)).heap[(w1.heap.size + 1)]? = some (.cells #[.int .i64 B.cells, .slice none 0 0, .slice ov B.turn.length cv] 31 (0, 0)) := by
          simp [World.setCell, Array.getElem?_modify, hh2]
        have halX : Alters (fun k => k = (w1.heap.size + 1)) w2 (((w2.setCell ⟨(w1.heap.size + 1), 0, none⟩ (.int .i64 B.cells)).setCell ⟨(w1.heap.size + 1), 1, none⟩ (.slice none 0 0)).setCell ⟨(w1.heap.size + 1), 2, none⟩ (.slice ov B.turn.length cv)) :=
          ⟨rfl, rfl, rfl, by simp [World.setCell], fun k _ hk => ((Below.heap_setCell _ _ _ _ hk).trans (Below.heap_setCell _ _ _ _ hk)).trans (Below.heap_setCell _ _ _ _ hk)⟩
        have hownX := hown2.alters halX (fun k hk e => by rw [hk] at e; exact own_type hown2 hh2 (by decide) e)
        have hbX := hb2.trans (halX.below hb2.size (fun k hk => by omega))
        refine hK.out _ _ ⟨cell_keep hbX c0, cell_keep hbX c2⟩ (fun _ => ?_)
        clear hK K
        (try simp only [Act.put, List.setIfInBounds_toArray, List.set_cons_zero, List.set_cons_succ])
        refine wpAnyH_done (by kernel_rfl) ?_ _
        go_wp2_with fail; go_meet
        exact ⟨(w1.heap.size + 1), .slice ov B.turn.length cv, rfl, ⟨hX, RowsN.nil _ _, hownX, fun _ _ v hv => by simp at hv⟩, hbX, by omega⟩
    · go_simp
      refine hK.out _ _ ⟨cell_alloc_keep hHeld.1 _, cell_alloc_keep hHeld.2 _⟩ (fun hS3 => ?_)
      clear hK K
      (try simp only [Act.put, List.setIfInBounds_toArray, List.set_cons_zero, List.set_cons_succ])
      refine wpAnyH_ready (rs := [2]) (by kernel_rfl) (by simp) ?_
      refine AllReadyH.cons (o := { dst := some 22, op := Op.buildSlice 29 0 #[], type := 29, pos := "ref.go:163", after := #[], guard := none }) rfl (fun K hK => ?_) AllReadyH.nil
      go_simp
      refine hK.out _ _ ⟨cell_alloc_keep hS3.1 _, cell_alloc_keep hS3.2 _⟩ (fun hS3 => ?_)
      clear hK K
      (try simp only [Act.put, List.setIfInBounds_toArray, List.set_cons_zero, List.set_cons_succ])
      refine wpAnyH_ready (rs := [5]) (by kernel_rfl) (by simp) ?_
      refine AllReadyH.cons (o := { dst := some 25, op := Op.call { callee := Callee.builtin Builtin.append, args := #[Operand.tmp 22, Operand.tmp 24], argTypes := #[29, 29] }, type := 29, pos := "ref.go:163", after := #[{ on := 2, ground := Ground.data }, { on := 4, ground := Ground.data }], guard := none }) rfl (fun K hK => ?_) AllReadyH.nil
      have hownE : OwnInts w1.heap.size ((w1.alloc (.cells #[.int .i64 0, .slice none 0 0, .slice none 0 0] 31)).alloc (.cells #[] 3)).drew (.slice (some ⟨w1.heap.size + 1, 0, none⟩) 0 0) [] := by
        have := own_empty (w1.alloc (.cells #[.int .i64 0, .slice none 0 0, .slice none 0 0] 31))
        rw [World.size_alloc] at this
        exact OwnInts.mono this (by omega)
      have hbE : Below w1.heap.size w1 ((w1.alloc (.cells #[.int .i64 0, .slice none 0 0, .slice none 0 0] 31)).alloc (.cells #[] 3)).drew := by (repeat (first | exact Below.refl _ _ | assumption | refine below_alloc ?_ _ | refine Below.drew ?_ | refine below_drewN_ ?_ _ | refine below_step ?_ (by assumption)))
      have hxE : ((w1.alloc (.cells #[.int .i64 0, .slice none 0 0, .slice none 0 0] 31)).alloc (.cells #[] 3)).drew.heap[w1.heap.size]? = some (.cells #[.int .i64 0, .slice none 0 0, .slice none 0 0] 31 (0, 0)) :=
        (Below.heap_alloc _ _ _ (by simp)).trans (World.alloc_heap_new w1 _)
      refine step_append_all rfl (.tmp 22) (.tmp 24) rfl w1.heap.size (.slice (some ⟨(w1.heap.size + 1), 0, none⟩) 0 0) [] rfl hownE (by simp) hbE.size bt ot ct B.turn rfl (by omega) (hxx _ hbE) ?_
      intro v2 w2 hown2 hg2 _
      rw [List.nil_append] at hown2
      obtain ⟨ov, cv, rfl, _⟩ := OwnInts.places hown2
      have hb2 : Below w1.heap.size w1 w2 := push_below hbE (Below.refl _ _) hbE.size hownE hg2
      have hS5 := And.intro (cell_keep hb2 c0) (cell_keep hb2 c2)
      refine hK.out _ _ hS5 (fun _ => ?_)
      clear hK K
      (try simp only [Act.put, List.setIfInBounds_toArray, List.set_cons_zero, List.set_cons_succ])
      have hh2 := (hg2.block w1.heap.size (Array.getElem?_eq_some_iff.1 hxE).1 (by simp [Value.ownBlock])).trans hxE
      have hBlt : w1.heap.size < w2.heap.size := (Array.getElem?_eq_some_iff.1 hh2).1
      have hz0 : w2.cell? ⟨w1.heap.size, 0, none⟩ = some (.int .i64 0) := by unfold World.cell?; rw [hh2]; rfl
      have hz1 : w2.cell? ⟨w1.heap.size, 1, none⟩ = some (.slice none 0 0) := by unfold World.cell?; rw [hh2]; rfl
      have hz2 : w2.cell? ⟨w1.heap.size, 2, none⟩ = some (.slice none 0 0) := by unfold World.cell?; rw [hh2]; rfl
      have hf0 : w2.frozen? ⟨w1.heap.size, 0, none⟩ = false := by unfold World.frozen?; rw [hh2]; simp
      have hf1 : w2.frozen? ⟨w1.heap.size, 1, none⟩ = false := by unfold World.frozen?; rw [hh2]; simp
      have hf2 : w2.frozen? ⟨w1.heap.size, 2, none⟩ = false := by unfold World.frozen?; rw [hh2]; simp
      refine wpAnyH_take (i := 6) (oi := { dst := some 26, op := Op.build 31 #[(0, Operand.tmp 21), (2, Operand.tmp 25)], type := 31, pos := "ref.go:163", after := #[{ on := 1, ground := Ground.data }, { on := 5, ground := Ground.data }], guard := none }) (v := ?_) rfl (by kernel_rfl) (by kernel_rfl) (by kernel_rfl) (fun _ _ _ h => h) (Or.inl ⟨by rfl, ?_⟩) (by assumption) ?_
      rotate_left
      · ((intro w hSw; (try dsimp only at hSw); go_simp); try with_reducible rfl)
      (try simp only [Act.put, List.setIfInBounds_toArray, List.set_cons_zero, List.set_cons_succ])
      refine wpAnyH_ready (rs := [8]) (by kernel_rfl) (by simp) ?_
      refine AllReadyH.cons (o := { dst := none, op := Op.store 31 (Operand.tmp 6) (Operand.tmp 26), type := 0, pos := "ref.go:163", after := #[{ on := 7, ground := Ground.data }, { on := 6, ground := Ground.data }, { on := 5, ground := Ground.chain }, { on := 0, ground := Ground.phase }, { on := 1, ground := Ground.phase }, { on := 2, ground := Ground.phase }, { on := 3, ground := Ground.phase }, { on := 4, ground := Ground.phase }, { on := 5, ground := Ground.phase }, { on := 6, ground := Ground.phase }, { on := 7, ground := Ground.phase }], guard := none }) rfl (fun K hK => ?_) AllReadyH.nil
      go_simp
      have hX : (((w2.setCell ⟨w1.heap.size, 0, none⟩ (.int .i64 B.cells)).setCell ⟨w1.heap.size, 1, none⟩ (.slice none 0 0)).setCell ⟨w1.heap.size, 2, none⟩ (.slice ov B.turn.length cv)).heap[w1.heap.size]? = some (.cells #[.int .i64 B.cells, .slice none 0 0, .slice ov B.turn.length cv] 31 (0, 0)) := by
        simp [World.setCell, Array.getElem?_modify, hh2]
      have halX : Alters (fun k => k = w1.heap.size) w2 (((w2.setCell ⟨w1.heap.size, 0, none⟩ (.int .i64 B.cells)).setCell ⟨w1.heap.size, 1, none⟩ (.slice none 0 0)).setCell ⟨w1.heap.size, 2, none⟩ (.slice ov B.turn.length cv)) :=
        ⟨rfl, rfl, rfl, by simp [World.setCell], fun k _ hk => ((Below.heap_setCell _ _ _ _ hk).trans (Below.heap_setCell _ _ _ _ hk)).trans (Below.heap_setCell _ _ _ _ hk)⟩
      have hownX := hown2.alters halX (fun k hk e => by rw [hk] at e; exact own_type hown2 hh2 (by decide) e)
      have hbX := hb2.trans (halX.below hb2.size (fun k hk => by omega))
      refine hK.out _ _ ⟨cell_keep hbX c0, cell_keep hbX c2⟩ (fun _ => ?_)
      clear hK K
      (try simp only [Act.put, List.setIfInBounds_toArray, List.set_cons_zero, List.set_cons_succ])
      refine wpAnyH_done (by kernel_rfl) ?_ _
      go_wp2_with fail; go_meet
      exact ⟨w1.heap.size, .slice ov B.turn.length cv, rfl, ⟨hX, RowsN.nil _ _, hownX, fun _ _ v hv => by simp at hv⟩, hbX, by omega⟩
  case rest =>
    obtain ⟨Bo, tv, rfl, hb, hbw, hBo⟩ := hcut
    clear hIt1 c0 c2 t0 t1
    go_wp2_with fail
    go_loopw [7] (fun i wr => ∃ (d : Nat) (on : Value) (vs : List Value), d ≤ B.next.length ∧ i = .int .i64 d ∧ Bld w1.heap.size Bo B.cells wr on tv ((B.next.take d).map (outRow c)) B.turn vs ∧ Below w1.heap.size w1 wr)
      (fun i _ => B.next.length - (intOf i).toNat)
    case atStart => exact ⟨0, _, [], Nat.zero_le _, rfl, by simpa using hb, hbw⟩
    case round =>
      clear hb hbw
      obtain ⟨d, on, vs, hd, rfl, hb, hbw⟩ := hrel
      generalize wr = w4 at *
      have y := y0.up hbw
      obtain ⟨c0, c1, c2, hH⟩ := id y
      by_cases hlt : d < B.next.length
      · obtain ⟨br, off, aj, cj, hab, hbN, hcr, hI⟩ := hH.1.at_ hlt
        subst hab
        have hrl := hB.row d hlt
        generalize hr : B.next[d]?.getD [] = r at hcr hI hrl
        have HRL := Lib.hid hrl
        have HR := Lib.hid hr
        have hrn : r.length ≤ 64 := by omega
        have hr1 : 1 ≤ r.length := by omega
        clear hrl hr
        go_wp2_with fail
        have hown5 : OwnInts w4.heap.size (w4.alloc (.cells #[] 3)) (.slice (some ⟨w4.heap.size, 0, none⟩) 0 0) ((List.range 0).map (woEnt c r)) := own_empty w4
        have hB5 : Below w4.heap.size w4 (w4.alloc (.cells #[] 3)) := (Below.refl _ _).alloc (Nat.le_refl _) _
        generalize w4.alloc (.cells #[] 3) = w5 at *
        clear c0 c1 c2 hH
        go_loopw [8, 9] (fun l i wi => ∃ x : Nat, x ≤ r.length ∧ i = .int .i64 x ∧ OwnInts w4.heap.size wi l ((List.range x).map (woEnt c r)) ∧ Below w4.heap.size w4 wi)
          (fun _ i _ => r.length - (intOf i).toNat)
        case atStart => exact ⟨0, Nat.zero_le _, rfl, hown5, hB5⟩
        case round =>
          clear hown5 hB5
          obtain ⟨x, hx, rfl, ho, hbi⟩ := hrel
          obtain ⟨c0, c1, c2, _⟩ := y.up hbi
          by_cases hxl : x < r.length
          · have hcr' := cell_keep hbi hcr
            have tx : decide ((x : Int) < B.cells) = true := by have := HRL.out; simp; omega
            obtain ⟨b2, off2, haj, hb2, hcc⟩ := (hI.up (Nat.le_refl _) hbi).at_ (j := x) hxl
            subst haj
            have hsuc := woEnt_succ c r x
            have hlen : ((List.range x).map (woEnt c r)).length = x := by simp
            have hee : woEnt c r x = if (x : Int) = c ∨ r[x]?.getD 0 = c then -1 else r[x]?.getD 0 := rfl
            generalize hL : (List.range x).map (woEnt c r) = L at ho hlen hsuc
            generalize r[x]?.getD 0 = tz at hcc hee
            generalize woEnt c r x = ee at hsuc hee
            have HS := Lib.hid hsuc
            have HLN := Lib.hid (show L.length ≤ 64 by omega)
            have HXL := Lib.hid hxl
            have HN := Lib.hid ho
            clear hL hlen hsuc ho
            by_cases h1 : (x : Int) = c
            · have u1 : ((x : Int) == c) = true := by simpa using h1
              have u2 : decide ((x : Int) = c) = true := by simpa using h1
              have HE := Lib.hid (by rw [hee, if_pos (.inl h1)] : ee = -1)
              have HNA := Lib.hid (HN.out.alters (S := fun _ => False) (Alters.of_below (((Below.refl _ wr).alloc (Nat.le_refl _) (.cells #[.int .i64 (-1)] 3)) : Below wr.heap.size wr (wr.alloc (.cells #[.int .i64 (-1)] 3)))) (fun _ h => h.elim))
              clear hee h1
              go_wp2_with (at_builtin; go_loud (refine wpList_push rfl (.tmp 57) (.tmp 59) rfl w4.heap.size _ L rfl HNA.out (by have := HLN.out; omega) (by have := hbi.size; simp; omega) ⟨wr.heap.size, 0, none⟩ (-1) rfl (cell_new_at _ _ _ _ _ _ rfl rfl) ?_; intro g6 cap6 w6 hown6 hg6 hat6))
              have hb6 := push_below hbi (((Below.refl _ wr).alloc (Nat.le_refl _) _) : Below wr.heap.size wr (wr.alloc (.cells #[.int .i64 (-1)] 3))) hbi.size HN.out hg6
              clear hat6
              go_roundw
              case rel => exact ⟨x + 1, by have := HXL.out; omega, by simp, by rw [HS.out, HE.out]; exact hown6, hb6⟩
              case measure => simp [intOf]; have := HXL.out; omega
            · have u1 : ((x : Int) == c) = false := by simpa using h1
              have u2 : decide ((x : Int) = c) = false := by simpa using h1
              by_cases h2 : tz = c
              · have u3 : (tz == c) = true := by simpa using h2
                have u4 : decide (tz = c) = true := by simpa using h2
                have HE := Lib.hid (by rw [hee, if_pos (.inr h2)] : ee = -1)
                have HNA := Lib.hid (HN.out.alters (S := fun _ => False) (Alters.of_below (((Below.refl _ wr).alloc (Nat.le_refl _) (.cells #[.int .i64 (-1)] 3)) : Below wr.heap.size wr (wr.alloc (.cells #[.int .i64 (-1)] 3)))) (fun _ h => h.elim))
                clear hee h1 h2
                go_wp2_with (at_builtin; go_loud (refine wpList_push rfl (.tmp 57) (.tmp 59) rfl w4.heap.size _ L rfl HNA.out (by have := HLN.out; omega) (by have := hbi.size; simp; omega) ⟨wr.heap.size, 0, none⟩ (-1) rfl (cell_new_at _ _ _ _ _ _ rfl rfl) ?_; intro g6 cap6 w6 hown6 hg6 hat6))
                have hb6 := push_below hbi (((Below.refl _ wr).alloc (Nat.le_refl _) _) : Below wr.heap.size wr (wr.alloc (.cells #[.int .i64 (-1)] 3))) hbi.size HN.out hg6
                clear hat6
                go_roundw
                case rel => exact ⟨x + 1, by have := HXL.out; omega, by simp, by rw [HS.out, HE.out]; exact hown6, hb6⟩
                case measure => simp [intOf]; have := HXL.out; omega
              · have u3 : (tz == c) = false := by simpa using h2
                have u4 : decide (tz = c) = false := by simpa using h2
                have HE := Lib.hid (by rw [hee, if_neg (by rintro (h | h); exact h1 h; exact h2 h)] : ee = tz)
                have HNA := Lib.hid (HN.out.alters (S := fun _ => False) (Alters.of_below (((Below.refl _ wr).alloc (Nat.le_refl _) (.cells #[.int .i64 tz] 3)) : Below wr.heap.size wr (wr.alloc (.cells #[.int .i64 tz] 3)))) (fun _ h => h.elim))
                clear hee h1 h2
                go_wp2_with (at_builtin; go_loud (refine wpList_push rfl (.tmp 57) (.tmp 59) rfl w4.heap.size _ L rfl HNA.out (by have := HLN.out; omega) (by have := hbi.size; simp; omega) ⟨wr.heap.size, 0, none⟩ tz rfl (cell_new_at _ _ _ _ _ _ rfl rfl) ?_; intro g6 cap6 w6 hown6 hg6 hat6))
                have hb6 := push_below hbi (((Below.refl _ wr).alloc (Nat.le_refl _) _) : Below wr.heap.size wr (wr.alloc (.cells #[.int .i64 tz] 3))) hbi.size HN.out hg6
                clear hat6
                go_roundw
                case rel => exact ⟨x + 1, by have := HXL.out; omega, by simp, by rw [HS.out, HE.out]; exact hown6, hb6⟩
                case measure => simp [intOf]; have := HXL.out; omega
          · obtain rfl : x = r.length := by omega
            have tx : decide (((r.length : Nat) : Int) < B.cells) = false := by have := HRL.out; simp; omega
            rw [woEnt_row] at ho
            obtain ⟨o6, cp6, rfl, _⟩ := OwnInts.places ho
            have hrl2 : (outRow c r).length = r.length := outRow_len c r
            rw [hrl2] at ho ⊢
            have hbB := hb.below hbi
            have hbwx : Below w1.heap.size w1 wr := hbw.trans (hbi.mono hbw.size)
            have hGot : ∀ k, some k = tv.ownBlock → ¬ some k = (Value.slice o6 r.length cp6).ownBlock := fun k e e2 => by
              have h1 := (hb.own_ot e).2
              have h2 := (World.ownsRow.lt ho k e2.symm).1
              omega
            have hown0 : OwnInts w1.heap.size wr (.slice o6 r.length cp6) (outRow c r) := OwnInts.mono ho hbw.size
            have hlenN : ((B.next.take d).map (outRow c)).length = d := by simp; omega
            have HLN := Lib.hid hlenN
            have HRO := Lib.hid (by have := (hbB.below ((Below.refl _ wr).alloc (Nat.le_refl _) (.cells #[.slice o6 r.length cp6] 29))).rows.outer; rwa [hlenN] at this : (wr.alloc (.cells #[.slice o6 r.length cp6] 29)).ownsRow w1.heap.size 29 1 on d vs)
            have HOW := Lib.hid hown0
            have HBX := Lib.hid hbB
            obtain ⟨_, hcx1, _, _, _⟩ := hbB.cell
            obtain ⟨j0, hj, hy0, hy1, hy2⟩ := info_parts info_row
            have hdl : d ≤ 8 := by omega
            have HRL2 := Lib.hid hrl2
            clear hlenN hown0 hb hbi hrl2 ho
            go_wp2_with (at_builtin; go_loud (refine wpList_append_own_at _ rfl (.tmp 62) (.tmp 64) 28 rfl w1.heap.size 29 j0 (.slice none 0 0) 1 24 Tryd.underlying28 hj hy0 hy1 hy2 rfl (by decide) on d vs rfl HRO.out ⟨wr.heap.size, 0, none⟩ 1 1 [.slice o6 r.length cp6] rfl rfl (cell_one_new _ _ _) (by simp [Value.oneCell']) (by unfold maxLen; omega) (by omega) (by have := hbwx.size; simp; omega) ?_; intro v6 w6 hown6 hgrow6 _ hat6; obtain ⟨g6, cap6, rfl⟩ := ownsRow_succ hown6; have hg6 := HBX.out.grown_on hgrow6; have hc6 : w6.cell? ⟨Bo, 1, none⟩ = some on := by { unfold World.cell?; rw [hg6]; rfl }; have hf6 : w6.frozen? ⟨Bo, 1, none⟩ = false := by { unfold World.frozen?; rw [hg6]; simp }; clear hg6))
            obtain ⟨hb7, hal7⟩ := HBX.out.next HOW.out hGot (by rw [HLN.out]; exact hown6) hgrow6
            have hbw7 : Below w1.heap.size w1 _ := hbwx.trans (hal7.below hbwx.size (fun k hk => by
              rcases hk with rfl | hk
              · omega
              · exact (HBX.out.own_on hk).1))
            have hBk : B.next[d]? = some r := by rw [← HR.out]; simp [hlt]
            have hmr : (B.next.take (d + 1)).map (outRow c) = (B.next.take d).map (outRow c) ++ [outRow c r] := by rw [List.take_add_one, hBk]; simp
            rw [← hmr] at hb7
            have HB7 := Lib.hid hb7
            clear hmr hal7 hown6 hgrow6 hat6 hb7 hBk
            go_roundw
            case rel => exact ⟨d + 1, _, _, by omega, by simp, HB7.out, hbw7⟩
            case measure => simp [intOf]; omega
      · obtain rfl : d = B.next.length := by omega
        have hfull : (B.next.take B.next.length).map (outRow c) = (withoutS B c).next := by simp [withoutS]
        rw [hfull] at hb
        obtain ⟨an', cn', at', ct', rfl, rfl, hRw, hTu⟩ := hb.held
        obtain ⟨q0, q1, q2, _, _⟩ := hb.cell
        have hz := (hbw.block _ (by omega)).trans k4
        have z0 : w4.cell? ⟨w.heap.size + 1, 0, none⟩ = some (.int .i64 0) := by unfold World.cell?; rw [hz]; rfl
        have z1 : w4.cell? ⟨w.heap.size + 1, 1, none⟩ = some (.slice none 0 0) := by unfold World.cell?; rw [hz]; rfl
        have z2 : w4.cell? ⟨w.heap.size + 1, 2, none⟩ = some (.slice none 0 0) := by unfold World.cell?; rw [hz]; rfl
        have f0 : w4.frozen? ⟨w.heap.size + 1, 0, none⟩ = false := by unfold World.frozen?; rw [hz]; simp
        have f1 : w4.frozen? ⟨w.heap.size + 1, 1, none⟩ = false := by unfold World.frozen?; rw [hz]; simp
        have f2 : w4.frozen? ⟨w.heap.size + 1, 2, none⟩ = false := by unfold World.frozen?; rw [hz]; simp
        have hal : Alters (fun k => k = w.heap.size + 1) w4 (((w4.setCell ⟨w.heap.size + 1, 0, none⟩ (.int .i64 B.cells)).setCell ⟨w.heap.size + 1, 1, none⟩ (.slice an' (withoutS B c).next.length cn')).setCell ⟨w.heap.size + 1, 2, none⟩ (.slice at' B.turn.length ct')) :=
          ⟨rfl, rfl, rfl, by simp [World.setCell], fun k _ hk => ((Below.heap_setCell _ _ _ _ hk).trans (Below.heap_setCell _ _ _ _ hk)).trans (Below.heap_setCell _ _ _ _ hk)⟩
        have hbN := hb.alters hal (by omega) (fun k hk => by rw [hk]; exact own_type hb.rows.outer hz (by decide)) (fun k hk => by rw [hk]; exact own_type hb.turn hz (by decide)) (fun k hk v hv => by
          rw [hk]
          obtain ⟨i, hi⟩ := List.getElem?_of_mem hv
          exact own_type (hb.rows.own i v hi) hz (by decide))
        have hbw2 : Below w.heap.size w w4 := hb1.trans (hbw.mono (by omega))
        have hbwN := hbw2.trans (hal.below hbw2.size (fun k hk => by omega))
        have HBN := Lib.hid hbN
        have HBo := Lib.hid (show w.heap.size + 2 ≤ Bo by omega)
        clear hz hb hbN hal hRw hTu hfull
        go_wp2
        refine bodyPost_ret_by (v := .tuple #[.agg #[.int .i64 B.cells, .slice an' (withoutS B c).next.length cn', .slice at' B.turn.length ct'], .int .i64 0]) (by rw [results_cell_tmp rfl]; go_simp) rfl ?_
        refine ⟨an', cn', at', ct', rfl, ?_, hbwN⟩
        obtain ⟨a2, k2, a3, k3, e1, e2, h1, h2⟩ := HBN.out.held
        cases e1
        cases e2
        exact ⟨h1, h2⟩
end Go.Proofs.YtcpjkilnbhfpjaaDoor

namespace Go.Proofs.YtcpjkilnbhfpjaaDoor
open Go Go.RowKit Go.Shelf

/-- The three lists of the search: what has been found, the last level, the next one. -/
structure FromSt (h1 M H g n cap : Nat) (W : World) (lv nv : Value) (out last next : List Int) : Prop where
  o : OwnInts h1 W (.slice (some ⟨g, 0, none⟩) n cap) out
  l : OwnInts M W lv last
  x : OwnInts H W nv next
  lb : ∀ k, some k = lv.ownBlock → k < H
  gM : g < M
  MH : M ≤ H
  HW : H ≤ W.heap.size

theorem FromSt.alters {h1 M H g n cap : Nat} {W W' : World} {lv nv : Value} {out last next : List Int} (hs : FromSt h1 M H g n cap W lv nv out last next) {S : Nat → Prop} (ha : Alters S W W')
    (h0 : ¬ S g) (hl : ∀ k, S k → ¬ some k = lv.ownBlock) (hx : ∀ k, S k → ¬ some k = nv.ownBlock) : FromSt h1 M H g n cap W' lv nv out last next :=
  ⟨hs.o.alters ha (fun k hk e => h0 ((show k = g by simpa [Value.ownBlock] using e) ▸ hk)), hs.l.alters ha hl, hs.x.alters ha hx, hs.lb, hs.gM, hs.MH, Nat.le_trans hs.HW ha.size⟩

theorem FromSt.below {h1 M H g n cap : Nat} {W W' : World} {lv nv : Value} {out last next : List Int} (hs : FromSt h1 M H g n cap W lv nv out last next) (hb : Below W.heap.size W W') : FromSt h1 M H g n cap W' lv nv out last next :=
  hs.alters (S := fun _ => False) (Alters.of_below hb) (fun h => h) (fun _ h => h.elim) (fun _ h => h.elim)

theorem FromSt.apart {h1 M H g n cap : Nat} {W : World} {lv nv : Value} {out last next : List Int} (hs : FromSt h1 M H g n cap W lv nv out last next) : (∀ k, some k = lv.ownBlock → k ≠ g) ∧ (∀ k, some k = nv.ownBlock → k ≠ g ∧ ¬ some k = lv.ownBlock) := by
  have := hs.gM
  have := hs.MH
  refine ⟨fun k hk e => ?_, fun k hk => ⟨fun e => ?_, fun e => ?_⟩⟩
  · have := (World.ownsRow.lt hs.l k hk.symm).1; omega
  · have := (World.ownsRow.lt hs.x k hk.symm).1; omega
  · have := (World.ownsRow.lt hs.x k hk.symm).1
    have := hs.lb k e
    omega

theorem FromSt.put {h1 M H g n cap : Nat} {W : World} {lv nv : Value} {out last next : List Int} (hs : FromSt h1 M H g n cap W lv nv out last next) (j : Nat) (x : Int) : FromSt h1 M H g n cap (W.setCell ⟨g, j, none⟩ (.int .i64 x)) lv nv (out.set j x) last next := by
  have hal := alters_cell W g j (.int .i64 x)
  obtain ⟨p1, p2⟩ := hs.apart
  exact ⟨hs.o.set j x, hs.l.alters hal (fun k hk e => p1 k e hk), hs.x.alters hal (fun k hk e => (p2 k e).1 hk), hs.lb, hs.gM, hs.MH, Nat.le_trans hs.HW hal.size⟩

theorem FromSt.push {h1 M H g n cap : Nat} {W W' : World} {lv nv v' : Value} {out last next next' : List Int} (hs : FromSt h1 M H g n cap W lv nv out last next) {tmp : Obj} (ho : OwnInts H W' v' next') (hg : (W.alloc tmp).grownBy W' nv.ownBlock) : FromSt h1 M H g n cap W' lv v' out last next' := by
  have hA := hs.below ((Below.refl _ W).alloc (Nat.le_refl _) tmp)
  obtain ⟨p1, p2⟩ := hA.apart
  have hal := Alters.of_grown hg
  exact ⟨hA.o.alters hal (fun k hk e => (p2 k hk).1 (by simpa [Value.ownBlock] using e)), hA.l.alters hal (fun k hk e => (p2 k hk).2 e), ho, hs.lb, hs.gM, hs.MH, Nat.le_trans hA.HW hal.size⟩

/-- The cells near the one that is looked at. -/
structure FromL (H : Nat) (W : World) (vl nv : Value) (L : List Int) : Prop where
  own : OwnInts H W vl L
  ap : ∀ k, some k = vl.ownBlock → ¬ some k = nv.ownBlock

theorem FromL.put {h1 M H g n cap : Nat} {W : World} {lv nv vl : Value} {out last next L : List Int} (hl : FromL H W vl nv L) (hs : FromSt h1 M H g n cap W lv nv out last next) (j : Nat) (x : Int) : FromL H (W.setCell ⟨g, j, none⟩ (.int .i64 x)) vl nv L :=
  ⟨hl.own.alters (alters_cell W g j (.int .i64 x)) (fun k hk e => by
    have h1 := (World.ownsRow.lt hl.own k e.symm).1
    have := hs.gM
    have := hs.MH
    omega), hl.ap⟩

theorem FromL.push {H : Nat} {W W' : World} {vl nv v' : Value} {L : List Int} (hl : FromL H W vl nv L) {tmp : Obj} (hg : (W.alloc tmp).grownBy W' nv.ownBlock) (hat : v'.ownBlock = nv.ownBlock ∨ v'.ownBlock = some (W.alloc tmp).heap.size) : FromL H W' vl v' L := by
  have hA := hl.own.alters (S := fun _ => False) (Alters.of_below ((Below.refl _ W).alloc (Nat.le_refl _) tmp)) (fun _ h => h.elim)
  refine ⟨hA.alters (Alters.of_grown hg) (fun k hk e => hl.ap k e hk), fun k hk e => ?_⟩
  rcases hat with h | h
  · exact hl.ap k hk (by rw [← h]; exact e)
  · rw [h] at e
    have := (World.ownsRow.lt hA k hk.symm).2
    have : k = (W.alloc tmp).heap.size := by simpa using e
    omega

theorem near_mem {B : Brd} {y : Int} {j : Nat} (hj : j < (nearS B y).length) : (nearS B y)[j]?.getD 0 ∈ nearS B y := by
  rw [List.getElem?_eq_getElem hj, Option.getD_some]; exact List.getElem_mem hj

set_option maxRecDepth 100000 in
set_option maxHeartbeats 4000000 in
theorem refFrom_any (B : Brd) (hB : B.Ok) (n : Nat) (hn : B.cells = n) (an at_ : Option Addr) (cn ct : Nat) (a : Nat) (ha : a < n) (w : World) (hH : Held w.heap.size w an at_ B) :
    Calls Tryd.prog 45 #[B.val an cn at_ ct, .int .i64 a] w fun e w' => ∃ v, e = .returned v ∧ OwnInts w.heap.size w' v (distS (stepsS B) n a) ∧ Below w.heap.size w w' := by
  have hhi := hB.hi
  have hD := dist_is hB hn ha
  generalize distS (stepsS B) n a = D at hD ⊢
  have hn64 : n ≤ 64 := by omega
  have hle1 : B.cells ≤ n := by omega
  have hle2 : (n : Int) ≤ B.cells := by omega
  have HN := Lib.hid hn
  have y0 := InBox.new cn ct hH
  have hbw0 : Below w.heap.size w (w.alloc (.cells #[.int .i64 B.cells, .slice an B.next.length cn, .slice at_ B.turn.length ct] 31)) := below_alloc (Below.refl _ _) _
  clear hH hn
  go_enter Tryd.func45, Tryd.ntmps45
  go_wp2_with fail
  have hbs : w.heap.size < (w.alloc (.cells #[.int .i64 B.cells, .slice an B.next.length cn, .slice at_ B.turn.length ct] 31)).heap.size := by rw [World.size_alloc]; omega
  have hsz : (w.alloc (.cells #[.int .i64 B.cells, .slice an B.next.length cn, .slice at_ B.turn.length ct] 31)).heap.size = w.heap.size + 1 := World.size_alloc _ _
  generalize w.alloc (.cells #[.int .i64 B.cells, .slice an B.next.length cn, .slice at_ B.turn.length ct] 31) = w1 at *
  have hown := own_empty w1
  have hb2 : Below w1.heap.size w1 (w1.alloc (.cells #[] 3)) := (Below.refl _ _).alloc (Nat.le_refl _) _
  generalize hb1 : w.heap.size = b1 at *
  generalize w1.alloc (.cells #[] 3) = w2 at *
  have HB1 := Lib.hid hb1
  rw [hsz] at hown
  have HSZ := Lib.hid hsz
  clear hb1 hsz
  go_loopw [5, 6] (fun o i wr => ∃ k : Nat, k ≤ n ∧ i = .int .i64 k ∧ OwnInts w1.heap.size wr o (List.replicate k (-1)) ∧ Below w1.heap.size w1 wr)
    (fun _ i _ => n - (intOf i).toNat)
  case atStart => exact ⟨0, Nat.zero_le _, rfl, by rw [HSZ.out]; exact hown, hb2⟩
  case round =>
    clear hown hb2
    obtain ⟨k, hk, rfl, ho, hbi⟩ := hrel
    have y := y0.up hbi
    obtain ⟨c0, c1, c2, hH⟩ := id y
    by_cases hlt : k < n
    · have t0 : decide ((k : Int) < B.cells) = true := by simp; omega
      have hll : (List.replicate k (-1 : Int)).length = k := by simp
      have hre : List.replicate (k + 1) (-1 : Int) = List.replicate k (-1) ++ [-1] := List.replicate_succ'
      generalize List.replicate k (-1 : Int) = L at ho hll hre
      have HRE := Lib.hid hre
      have HLN := Lib.hid (show L.length ≤ 64 by omega)
      have hAB : Below wr.heap.size wr (wr.alloc (.cells #[.int .i64 (-1)] 3)) := (Below.refl _ _).alloc (Nat.le_refl _) _
      have HNA := Lib.hid (ho.alters (S := fun _ => False) (Alters.of_below hAB) (fun _ h => h.elim))
      have HO := Lib.hid ho
      clear ho hll hre
      go_wp2_with (at_builtin; go_loud (refine wpList_push rfl (.tmp 20) (.tmp 21) rfl w1.heap.size _ L rfl HNA.out (by have := HLN.out; omega) (Nat.le_trans hbi.size hAB.size) ⟨wr.heap.size, 0, none⟩ (-1) rfl (cell_new_at _ _ _ _ _ _ rfl rfl) ?_; intro g6 cap6 w6 hown6 hg6 hat6))
      have hb6 := push_below hbi hAB hbi.size HO.out hg6
      clear hat6
      go_roundw
      case rel => exact ⟨k + 1, by omega, by simp, by rw [HRE.out]; exact hown6, hb6⟩
      case measure => simp [intOf]; omega
    · obtain rfl : k = n := by omega
      have t0 : decide ((k : Int) < B.cells) = false := by simp; omega
      rcases ho.form with ⟨_, h0⟩ | ⟨g, cap, rfl, hg1, hg2⟩
      · have := congrArg List.length h0; simp at this; omega
      have hll : (List.replicate k (-1 : Int)).length = k := by simp
      obtain ⟨hca, hfa⟩ := ho.cellAt (j := a) (by omega)
      rw [hll] at ho ⊢
      generalize (List.replicate k (-1 : Int))[a]?.getD 0 = va at hca
      obtain ⟨hL0, hLast0⟩ := Lev.start hD ha
      have ho5 := ho.set a 0
      have hO : FromSt w1.heap.size wr.heap.size ((wr.setCell ⟨g, a, none⟩ (.int .i64 0)).alloc (.cells #[.int .i64 a] 3)).heap.size g k cap ((wr.setCell ⟨g, a, none⟩ (.int .i64 0)).alloc (.cells #[.int .i64 a] 3)) (.slice (some ⟨wr.heap.size, 0, none⟩) 1 1) (.slice none 0 0) ((List.replicate k (-1)).set a 0) [(a : Int)] [] := by
        have hsw : (wr.setCell ⟨g, a, none⟩ (.int .i64 0)).heap.size = wr.heap.size := by simp [World.setCell]
        refine ⟨World.ownsRow.alloc ho5 _, ?_, ?_, ?_, hg2, ?_, Nat.le_refl _⟩
        · have := own_lit (wr.setCell ⟨g, a, none⟩ (.int .i64 0)) a
          rw [hsw] at this
          exact this
        · exact World.ownsRow_nil _ _ _ _
        · intro q hq
          have : q = wr.heap.size := by simpa [Value.ownBlock] using hq
          rw [World.size_alloc, hsw]; omega
        · rw [World.size_alloc, hsw]; omega
      have hb6 : Below w1.heap.size w1 ((wr.setCell ⟨g, a, none⟩ (.int .i64 0)).alloc (.cells #[.int .i64 a] 3)) := (hbi.setCell (by show w1.heap.size ≤ g; omega) _).alloc (by show w1.heap.size ≤ (wr.setCell _ _).heap.size; simp [World.setCell]; exact hbi.size) _
      have ha2 : (a : Int) < (k : Int) := by omega
      have ha3 : decide ((a : Int) < (k : Int)) = true := by simpa using ha
      have HLL := Lib.hid hll
      clear ho ho5 hll
      go_wp2_with fail
      generalize (wr.setCell ⟨g, a, none⟩ (.int .i64 0)).alloc (.cells #[.int .i64 a] 3) = w6 at *
      generalize wr.heap.size = M at *
      clear hca hfa c0 c1 c2 hH y hbi
      go_loopw [7, 8] (fun lv mv wr => ∃ (m : Nat) (last out : List Int), 1 ≤ m ∧ m ≤ k + 2 ∧ mv = .int .i64 m ∧ Lev D k m out [] ∧ LastIs D k ((m : Int) - 1) last ∧ last.length ≤ k ∧ FromSt w1.heap.size M wr.heap.size g k cap wr lv (.slice none 0 0) out last [] ∧ Below w1.heap.size w1 wr)
        (fun _ mv _ => k + 2 - (intOf mv).toNat)
      case atStart => exact ⟨1, _, _, Nat.le_refl _, by omega, rfl, hL0, hLast0, by simp; omega, hO, hb6⟩
      case round =>
        clear hL0 hLast0 hO hb6
        obtain ⟨m, last, out, hm1, hm2, rfl, hlev, hlast, hlen, hst, hbi⟩ := hrel
        obtain ⟨al, cl, rfl, hIl⟩ := OwnInts.ints hst.l
        by_cases hz : last.length = 0
        · have hnil : last = [] := List.eq_nil_of_length_eq_zero hz
          have hout := hlev.done hD (by omega) (by rw [← hnil]; exact hlast)
          have hown := hst.o
          subst hnil
          rw [hout] at hown
          have HOW := Lib.hid hown
          clear hout hown hlev hlast hst hIl hz
          go_wp2
          go_ret
          rw [HB1.out]
          exact ⟨_, rfl, OwnInts.mono HOW.out (Nat.le_of_lt hbs), hbw0.trans (hbi.mono (Nat.le_of_lt hbs))⟩
        · have t1 : decide (0 < last.length) = true := by simp; omega
          have t1' : decide ((0 : Int) < (last.length : Int)) = true := by simp; omega
          have hmb := Lev.bound hD hlast (by omega)
          have hB6 : Below wr.heap.size wr (wr.alloc (.cells #[] 3)) := (Below.refl _ _).alloc (Nat.le_refl _) _
          have hst7 : FromSt w1.heap.size M wr.heap.size g k cap (wr.alloc (.cells #[] 3)) (.slice al last.length cl) (.slice (some ⟨wr.heap.size, 0, none⟩) 0 0) out last [] := by
            have := hst.below hB6
            exact ⟨this.o, this.l, own_empty wr, hst.lb, hst.gM, hst.MH, hB6.size⟩
          have hbi7 := below_step hbi hB6
          have HLA := Lib.hid hlast
          clear hst hIl hz hB6 hlast
          go_wp2_with fail
          generalize wr.alloc (.cells #[] 3) = w7 at *
          generalize wr.heap.size = H at *
          clear t1 t1'
          go_loopw [9, 10] (fun nv iv wi => ∃ (i : Nat) (next out : List Int), i ≤ last.length ∧ iv = .int .i64 i ∧ Lev D k m out next ∧ (∀ j, j < i → ∀ z ∈ nearS B (last[j]?.getD 0), 0 ≤ out[z.toNat]?.getD 0) ∧ FromSt w1.heap.size M H g k cap wi (.slice al last.length cl) nv out last next ∧ Below w1.heap.size w1 wi)
            (fun _ iv _ => last.length - (intOf iv).toNat)
          case atStart => exact ⟨0, _, _, Nat.zero_le _, rfl, hlev, fun j hj => absurd hj (Nat.not_lt_zero _), hst7, hbi7⟩
          case round =>
            clear hst7 hbi7 hlev hbi
            obtain ⟨i, next, out, hi, rfl, hlev, hdone, hst, hbi⟩ := hrel
            have HDN := Lib.hid hdone
            have HLV := Lib.hid hlev
            clear hdone hlev
            by_cases hil : i < last.length
            · have hli : last[i]?.getD 0 ∈ last := by rw [List.getElem?_eq_getElem hil, Option.getD_some]; exact List.getElem_mem hil
              obtain ⟨q1, q2, q3⟩ := HLA.out.1 _ hli
              obtain ⟨yy, hyy⟩ := Int.eq_ofNat_of_zero_le q1
              rw [hyy] at q2 q3
              rw [Int.toNat_natCast] at q3
              have hyk : yy < k := by omega
              rcases hst.l.form with ⟨_, h0⟩ | ⟨gl, cl', e, hg, hgl⟩
              · rw [h0] at hil; simp at hil
              cases e
              obtain ⟨hcl, _⟩ := OwnInts.cellAt hst.l hil
              rw [hyy] at hcl
              have hil' : (i : Int) < (last.length : Int) := by omega
              obtain ⟨c0, c1, c2, hH⟩ := y0.up hbi
              have HYY := Lib.hid hyy
              have HQ3 := Lib.hid q3
              have HIL := Lib.hid hil
              clear hyy q3 hli q1 q2
              go_wp2_with fail
              go_still_tail 5, (by kernel_rfl)
              go_wp2_with fail
              refine (refNear_any B hB an at_ cn ct yy wr.drew hH).mono ?_
              rintro e w8 ⟨vl, rfl, hown8, hb8⟩
              have hb8' : Below wr.heap.size wr w8 := below_step ((Below.refl _ wr).drew) hb8
              have hst8 := hst.below hb8'
              have hbi8 := below_step hbi hb8'
              have hfl : FromL H w8 vl u9 (nearS B yy) := ⟨OwnInts.mono hown8 hst.HW, fun q e1 e2 => by
                have g1 := (World.ownsRow.lt hown8 q e1.symm).1
                have g2 := (World.ownsRow.lt hst.x q e2.symm).2
                have g3 : wr.heap.size ≤ q := g1
                omega⟩
              have hln := near_len hB (yy : Int)
              have hD0 : 0 ≤ D[yy]?.getD 0 := by rw [HQ3.out]; omega
              have hmemL : ∀ q, q < (nearS B yy).length → (nearS B yy)[q]?.getD 0 ∈ nearS B yy := fun q hq => near_mem hq
              have HME := Lib.hid hmemL
              generalize hL : nearS B (yy : Int) = L at hfl hln HME
              have HL := Lib.hid hL
              have HD0 := Lib.hid hD0
              clear hL hmemL hown8 hb8 hb8' hst c0 c1 c2 hH hcl hbi hD0
              obtain ⟨av, cv, rfl, _⟩ := OwnInts.ints hfl.own
              go_wp2_with fail
              go_loopw [9, 12] (fun nv kv wj => ∃ (q : Nat) (next out : List Int), q ≤ L.length ∧ kv = .int .i64 q ∧ Hid (Lev D k m out next) ∧ Hid (∀ j, j < i → ∀ z ∈ nearS B (last[j]?.getD 0), 0 ≤ out[z.toNat]?.getD 0) ∧ Hid (∀ j, j < q → 0 ≤ out[(L[j]?.getD 0).toNat]?.getD 0) ∧ FromSt w1.heap.size M H g k cap wj (.slice (some ⟨gl, 0, none⟩) last.length cl) nv out last next ∧ FromL H wj (.slice av L.length cv) nv L ∧ Below w1.heap.size w1 wj)
                (fun _ kv _ => L.length - (intOf kv).toNat)
              case atStart => exact ⟨0, _, _, Nat.zero_le _, rfl, HLV, HDN, Lib.hid (fun j hj => absurd hj (Nat.not_lt_zero _)), hst8, hfl, hbi8⟩
              case round =>
                clear hst8 hfl hbi8 HLV HDN
                obtain ⟨q, next, out, hq, rfl, HLV, HDN, HDQ, hst, hfl, hbi⟩ := hrel
                by_cases hql : q < L.length
                · have hzm := HME.out q hql
                  rw [← HL.out] at hzm
                  obtain ⟨t1, t2, t3, t4⟩ := hD.tri yy hyk HD0.out _ hzm
                  rw [HL.out] at hzm t1 t2 t3 t4
                  obtain ⟨zz, hzz⟩ := Int.eq_ofNat_of_zero_le t1
                  rw [hzz] at t2 hzm
                  have hzk : zz < k := by omega
                  rcases hfl.own.form with ⟨_, h0⟩ | ⟨gv, cv', e, hgv, hgvl⟩
                  · rw [h0] at hql; simp at hql
                  cases e
                  obtain ⟨hcv, _⟩ := OwnInts.cellAt hfl.own hql
                  rw [hzz] at hcv
                  have hlo := HLV.out.len
                  obtain ⟨hco, hfo⟩ := OwnInts.cellAt hst.o (j := zz) (by omega)
                  have HZZ := Lib.hid hzz
                  have HZM := Lib.hid hzm
                  have hsh := HLV.out.short
                  have hpush := HLV.out.push hD hyk (by rw [HQ3.out]; omega) HD0.out (z := zz) (by rw [HL.out]; exact hzm)
                  have hkeep := fun j => Lev.keep (j := j) hlo hzk (show (0 : Int) ≤ (m : Int) by omega)
                  have hself : (out.set zz (m : Int))[zz]?.getD 0 = m := by rw [List.getElem?_set_self (by omega), Option.getD_some]
                  generalize hoz : out[zz]?.getD 0 = oz at hco hpush
                  have HOZ := Lib.hid hoz
                  have HKP := Lib.hid hkeep
                  have HSF := Lib.hid hself
                  clear hoz hzz hzm t1 t2 t3 t4 hlo hkeep hself
                  by_cases ho : oz < 0
                  · have u1 : decide (oz < 0) = true := by simpa using ho
                    have HPU := Lib.hid (hpush ho)
                    have hst5 := hst.put zz m
                    have hfl5 := hfl.put hst zz m
                    have hsw : (wr.setCell ⟨g, zz, none⟩ (.int .i64 m)).heap.size = wr.heap.size := by simp [World.setCell]
                    have hgg : w1.heap.size ≤ H := by have := hst.gM; have := hst.MH; omega
                    have hb5 : Below w1.heap.size w1 (wr.setCell ⟨g, zz, none⟩ (.int .i64 m)) := hbi.setCell (by show w1.heap.size ≤ g; omega) _
                    have hAB : Below (wr.setCell ⟨g, zz, none⟩ (.int .i64 m)).heap.size (wr.setCell ⟨g, zz, none⟩ (.int .i64 m)) ((wr.setCell ⟨g, zz, none⟩ (.int .i64 m)).alloc (.cells #[.int .i64 zz] 3)) := (Below.refl _ _).alloc (Nat.le_refl _) _
                    have hcn : ((wr.setCell ⟨g, zz, none⟩ (.int .i64 m)).alloc (.cells #[.int .i64 zz] 3)).cell? ⟨wr.heap.size, 0, none⟩ = some (.int .i64 zz) := by rw [← hsw]; exact cell_new_at _ _ _ _ _ _ rfl rfl
                    have HNA := Lib.hid (hst5.x.alters (S := fun _ => False) (Alters.of_below hAB) (fun _ h => h.elim))
                    have HHS := Lib.hid (Nat.le_trans hst5.HW hAB.size)
                    obtain ⟨hcv5, _⟩ := OwnInts.cellAt hfl5.own hql
                    rw [HZZ.out] at hcv5
                    have HS5 := Lib.hid hst5
                    have HF5 := Lib.hid hfl5
                    clear hpush hst5 hfl5 ho hsw hst hfl
                    go_wp2_with (at_builtin; go_loud (refine wpList_push rfl (.tmp 67) (.tmp 72) rfl H _ next rfl HNA.out (by omega) HHS.out ⟨wr.heap.size, 0, none⟩ zz rfl hcn ?_; intro g6 cap6 w6 hown6 hg6 hat6))
                    have hst6 := HS5.out.push hown6 hg6
                    have hfl6 := HF5.out.push hg6 (v' := .slice (some ⟨g6, 0, none⟩) (next.length + 1) cap6) (by
                      rcases hat6 with h | h
                      · exact .inl h.symm
                      · exact .inr (congrArg some h))
                    have hb6 := push_below hb5 hAB hb5.size (OwnInts.mono HS5.out.x hgg) hg6
                    go_roundw
                    case rel => exact ⟨q + 1, _, _, by omega, by simp, HPU, Lib.hid (fun j hj z hz => HKP.out _ (HDN.out j hj z hz)), Lib.hid (fun j hj => by
                      by_cases e : j = q
                      · rw [e, HZZ.out, Int.toNat_natCast, HSF.out]; omega
                      · exact HKP.out _ (HDQ.out j (by omega))), hst6, hfl6, hb6⟩
                    case measure => simp [intOf]; omega
                  · have u1 : decide (oz < 0) = false := by simpa using ho
                    have HO := Lib.hid (show 0 ≤ oz by omega)
                    clear hpush ho
                    go_wp2
                    go_roundw
                    case rel => exact ⟨q + 1, _, _, by omega, by simp, HLV, HDN, Lib.hid (fun j hj => by
                      by_cases e : j = q
                      · rw [e, HZZ.out, Int.toNat_natCast, HOZ.out]; exact HO.out
                      · exact HDQ.out j (by omega)), hst, hfl, hbi⟩
                    case measure => simp [intOf]; omega
                · have HDI := Lib.hid (fun j (hj : j < i + 1) z (hz : z ∈ nearS B (last[j]?.getD 0)) => (by
                    by_cases e : j = i
                    · rw [e, HYY.out, HL.out] at hz
                      obtain ⟨t, ht⟩ := List.getElem?_of_mem hz
                      have htl := (List.getElem?_eq_some_iff.1 ht).1
                      have := HDQ.out t (by omega)
                      rw [ht, Option.getD_some] at this
                      exact this
                    · exact HDN.out j (by omega) z hz : 0 ≤ out[z.toNat]?.getD 0))
                  have HIL2 := HIL.out
                  go_wp2
                  go_roundw
                  case rel => exact ⟨i + 1, _, _, by omega, by simp, HLV.out, HDI.out, hst, hbi⟩
                  case measure => simp [intOf]; omega
            · have hle : i = last.length := by omega
              have hnx := HLV.out.next hD (by omega) HLA.out (fun y hy z hz => by
                obtain ⟨t, ht⟩ := List.getElem?_of_mem hy
                have htl := (List.getElem?_eq_some_iff.1 ht).1
                exact HDN.out t (by omega) z (by rw [ht, Option.getD_some]; exact hz))
              have hsh := HLV.out.short
              have hstN : FromSt w1.heap.size M wr.heap.size g k cap wr u9 (.slice none 0 0) out next [] :=
                ⟨hst.o, OwnInts.mono hst.x hst.MH, World.ownsRow_nil _ _ _ _, fun q hq => (World.ownsRow.lt hst.x q hq.symm).2, hst.gM, Nat.le_trans hst.MH hst.HW, Nat.le_refl _⟩
              have HSN := Lib.hid hstN
              have HNX := Lib.hid hnx
              have HE := Lib.hid hle
              clear hstN hnx hst hle
              have u1 : decide ((i : Int) < (last.length : Int)) = false := by simp; omega
              go_wp2
              go_roundw
              case rel => exact ⟨m + 1, _, _, by omega, by omega, by simp, by have e : ((m + 1 : Nat) : Int) = (m : Int) + 1 := by omega
                                                                              rw [e]; exact HNX.out.1, by have e : ((m + 1 : Nat) : Int) - 1 = (m : Int) := by omega
                                                                                                          rw [e]; exact HNX.out.2, hsh, HSN.out, hbi⟩
              case measure => simp [intOf]; omega
end Go.Proofs.YtcpjkilnbhfpjaaDoor

namespace Go.Proofs.YtcpjkilnbhfpjaaDoor
open Go Go.RowKit Go.Shelf

theorem rows_empty (W : World) : RowsN W.heap.size (W.alloc (.cells #[] 29)) (.slice (some ⟨W.heap.size, 0, none⟩) 0 0) [] [] :=
  ⟨⟨rfl, .inr ⟨W.heap.size, 0, #[], rfl, Nat.le_refl _, World.alloc_heap_new _ _, Nat.le_refl _, by omega, rfl, rfl⟩⟩, fun i v hv => by simp at hv⟩

theorem farS_map {B : Brd} {n : Nat} (hn : B.cells = n) : (List.range n).map (fun a => distS (stepsS B) n a) = farS B := by
  apply List.ext_getElem
  · simp [farS_len hn]
  · intro j h1 h2
    have hj : j < n := by simpa using h1
    have := farS_get hn hj
    rw [List.getElem?_eq_getElem h2, Option.getD_some] at this
    rw [this]
    simp

set_option maxRecDepth 100000 in
set_option maxHeartbeats 2000000 in
theorem refFar_any (B : Brd) (hB : B.Ok) (an at_ : Option Addr) (cn ct : Nat) (w : World) (hH : Held w.heap.size w an at_ B) :
    Calls Tryd.prog 24 #[B.val an cn at_ ct] w fun e w' => ∃ v vs, e = .returned v ∧ RowsN w.heap.size w' v (farS B) vs ∧ Below w.heap.size w w' := by
  have hhi := hB.hi
  have hlo := hB.lo
  obtain ⟨n, hn⟩ := Int.eq_ofNat_of_zero_le (show 0 ≤ B.cells by omega)
  rw [← farS_map hn]
  have hle1 : B.cells ≤ n := by omega
  have hle2 : (n : Int) ≤ B.cells := by omega
  have hn64 : n ≤ 64 := by omega
  have HN := Lib.hid hn
  have y0 := InBox.new cn ct hH
  have hbw0 : Below w.heap.size w (w.alloc (.cells #[.int .i64 B.cells, .slice an B.next.length cn, .slice at_ B.turn.length ct] 31)) := below_alloc (Below.refl _ _) _
  clear hH hn
  go_enter Tryd.func24, Tryd.ntmps24
  go_wp2_with fail
  have hbs : w.heap.size < (w.alloc (.cells #[.int .i64 B.cells, .slice an B.next.length cn, .slice at_ B.turn.length ct] 31)).heap.size := by rw [World.size_alloc]; omega
  have hsz : (w.alloc (.cells #[.int .i64 B.cells, .slice an B.next.length cn, .slice at_ B.turn.length ct] 31)).heap.size = w.heap.size + 1 := World.size_alloc _ _
  generalize w.alloc (.cells #[.int .i64 B.cells, .slice an B.next.length cn, .slice at_ B.turn.length ct] 31) = w1 at *
  have hown := rows_empty w1
  have hb2 : Below w1.heap.size w1 (w1.alloc (.cells #[] 29)) := (Below.refl _ _).alloc (Nat.le_refl _) _
  generalize hb1 : w.heap.size = b1 at *
  generalize w1.alloc (.cells #[] 29) = w2 at *
  have HB1 := Lib.hid hb1
  rw [hsz] at hown
  have HSZ := Lib.hid hsz
  clear hb1 hsz
  go_loopw [3, 4] (fun o i wr => ∃ (k : Nat) (vs : List Value), k ≤ n ∧ i = .int .i64 k ∧ RowsN w1.heap.size wr o ((List.range k).map (fun a => distS (stepsS B) n a)) vs ∧ Below w1.heap.size w1 wr)
    (fun _ i _ => n - (intOf i).toNat)
  case atStart => exact ⟨0, [], Nat.zero_le _, rfl, by rw [HSZ.out]; exact hown, hb2⟩
  case round =>
    clear hown hb2
    obtain ⟨k, vs, hk, rfl, ho, hbi⟩ := hrel
    have y := y0.up hbi
    obtain ⟨c0, c1, c2, hH⟩ := id y
    have hll : ((List.range k).map (fun a => distS (stepsS B) n a)).length = k := by simp
    have hre : (List.range (k + 1)).map (fun a => distS (stepsS B) n a) = (List.range k).map (fun a => distS (stepsS B) n a) ++ [distS (stepsS B) n k] := by simp [List.range_succ]
    generalize (List.range k).map (fun a => distS (stepsS B) n a) = L at ho hll hre
    have HRE := Lib.hid hre
    have HLN := Lib.hid hll
    clear hll hre
    by_cases hlt : k < n
    · have t0 : decide ((k : Int) < B.cells) = true := by simp; omega
      go_wp2_with fail
      refine (refFrom_any B hB n HN.out an at_ cn ct k hlt wr hH).mono ?_
      rintro e w4 ⟨v, rfl, hv, hb4⟩
      obtain ⟨a4, cap4, rfl, _⟩ := OwnInts.ints hv
      have hdl : (distS (stepsS B) n k).length = n := dist_len _ _ _
      rw [hdl] at hv ⊢
      generalize distS (stepsS B) n k = row at hv HRE
      have ho4 := ho.alters (S := fun _ => False) (Alters.of_below hb4) (fun _ h => h.elim) (fun _ h => h.elim)
      have hbi4 := below_step hbi hb4
      have hv1 : OwnInts w1.heap.size w4 (.slice a4 n cap4) row := OwnInts.mono hv hbi.size
      have hAB : Below w4.heap.size w4 (w4.alloc (.cells #[.slice a4 n cap4] 29)) := (Below.refl _ _).alloc (Nat.le_refl _) _
      have hoA := ho4.alters (S := fun _ => False) (Alters.of_below hAB) (fun _ h => h.elim) (fun _ h => h.elim)
      have hvA := hv1.alters (S := fun _ => False) (Alters.of_below hAB) (fun _ h => h.elim)
      have HOA := Lib.hid hoA
      have HVA := Lib.hid hvA
      have HRO := Lib.hid (by have := hoA.outer; rwa [HLN.out] at this : (w4.alloc (.cells #[.slice a4 n cap4] 29)).ownsRow w1.heap.size 29 1 _ k vs)
      obtain ⟨j0, hj, hy0, hy1, hy2⟩ := info_parts info_row
      have hsz4 := hbi4.size
      clear hoA hvA hv1 hv ho ho4 hb4 c0 c1 c2 hH hdl
      go_wp2_with (at_builtin; go_loud (refine wpList_append_own_at _ rfl (.tmp 12) (.tmp 16) 28 rfl w1.heap.size 29 j0 (.slice none 0 0) 1 24 Tryd.underlying28 hj hy0 hy1 hy2 rfl (by decide) _ k vs rfl HRO.out ⟨w4.heap.size, 0, none⟩ 1 1 [.slice a4 n cap4] rfl rfl (cell_one_new _ _ _) (by simp [Value.oneCell']) (by unfold maxLen; omega) (by omega) (by simp; omega) ?_; intro v6 w6 hown6 hgrow6 _ hat6; obtain ⟨g6, cap6, rfl⟩ := ownsRow_succ hown6))
      have hrow := HOA.out.append HVA.out (by rw [HLN.out]; exact hown6) hgrow6
      rw [← HRE.out] at hrow
      have hb6 : Below w1.heap.size w1 w6 := (hbi4.trans (hAB.mono hsz4)).trans ((Alters.of_grown hgrow6).below (Nat.le_trans hsz4 hAB.size) (fun q hq => (World.ownsRow.lt HRO.out q hq.symm).1))
      go_roundw
      case rel => exact ⟨k + 1, _, by omega, by simp, hrow, hb6⟩
      case measure => simp [intOf]; omega
    · obtain rfl : k = n := by omega
      have t0 : decide ((k : Int) < B.cells) = false := by simp; omega
      have hL : L = (List.range k).map (fun a => distS (stepsS B) k a) := by
        have := HRE.out
        rw [List.range_succ, List.map_append, List.map_singleton] at this
        exact (List.append_inj_left this.symm (by rw [HLN.out]; simp))
      have HL := Lib.hid hL
      clear hL
      go_wp2
      go_ret
      rw [HB1.out, ← HL.out]
      exact ⟨_, _, rfl, ⟨⟨ho.outer.1, by
        rcases ho.outer.2 with h | ⟨g, cap, cur, e1, e2, e3⟩
        · exact .inl h
        · exact .inr ⟨g, cap, cur, e1, by omega, e3⟩⟩, fun i v hv => OwnInts.mono (ho.own i v hv) (Nat.le_of_lt hbs)⟩, hbw0.trans (hbi.mono (Nat.le_of_lt hbs))⟩
end Go.Proofs.YtcpjkilnbhfpjaaDoor

namespace Go.Proofs.YtcpjkilnbhfpjaaDoor
open Go Go.RowKit Go.Shelf

/-- The sum of what the block's first n cells hold. -/
def sumC (g n : Nat) (W : World) : Nat := ((List.range n).map fun x => match W.cell? ⟨g, x, none⟩ with | some (.int _ z) => z.toNat | _ => 0).sum
def flagN : Value → Nat
  | .bool true => 1
  | _ => 0

theorem sumC_of {h g n cap : Nat} {W : World} {out : List Int} (ho : OwnInts h W (.slice (some ⟨g, 0, none⟩) n cap) out) (hl : out.length = n) : sumC g n W = sumL out := by
  unfold sumC sumL
  congr 1
  apply List.ext_getElem
  · simp [hl]
  · intro j h1 h2
    have hj : j < out.length := by simpa using h2
    obtain ⟨hc, _⟩ := OwnInts.cellAt ho hj
    simp only [List.getElem_map, List.getElem_range]
    rw [hc]
    simp [hj]

set_option maxRecDepth 100000 in
set_option maxHeartbeats 4000000 in
theorem refParts_any (B : Brd) (hB : B.Ok) (an at_ : Option Addr) (cn ct : Nat) (w : World) (hH : Held w.heap.size w an at_ B) :
    Calls Tryd.prog 26 #[B.val an cn at_ ct] w fun e w' => ∃ v, e = .returned v ∧ OwnInts w.heap.size w' v (partsS B) ∧ Below w.heap.size w w' := by
  have hhi := hB.hi
  have hlo := hB.lo
  have hdirs := hB.dirs
  obtain ⟨n, hn⟩ := Int.eq_ofNat_of_zero_le (show 0 ≤ B.cells by omega)
  have hle1 : B.cells ≤ n := by omega
  have hle2 : (n : Int) ≤ B.cells := by omega
  have hn64 : n ≤ 64 := by omega
  have hn1 : 1 ≤ n := by omega
  have HN := Lib.hid hn
  have y0 := InBox.new cn ct hH
  have hbw0 : Below w.heap.size w (w.alloc (.cells #[.int .i64 B.cells, .slice an B.next.length cn, .slice at_ B.turn.length ct] 31)) := below_alloc (Below.refl _ _) _
  clear hH hn
  go_enter Tryd.func26, Tryd.ntmps26
  go_wp2_with fail
  have hbs : w.heap.size < (w.alloc (.cells #[.int .i64 B.cells, .slice an B.next.length cn, .slice at_ B.turn.length ct] 31)).heap.size := by rw [World.size_alloc]; omega
  have hsz : (w.alloc (.cells #[.int .i64 B.cells, .slice an B.next.length cn, .slice at_ B.turn.length ct] 31)).heap.size = w.heap.size + 1 := World.size_alloc _ _
  generalize w.alloc (.cells #[.int .i64 B.cells, .slice an B.next.length cn, .slice at_ B.turn.length ct] 31) = w1 at *
  have hown := own_empty w1
  have hb2 : Below w1.heap.size w1 (w1.alloc (.cells #[] 3)) := (Below.refl _ _).alloc (Nat.le_refl _) _
  generalize hb1 : w.heap.size = b1 at *
  generalize w1.alloc (.cells #[] 3) = w2 at *
  have HB1 := Lib.hid hb1
  rw [hsz] at hown
  have HSZ := Lib.hid hsz
  clear hb1 hsz
  go_loopw [3, 4] (fun o i wr => ∃ k : Nat, k ≤ n ∧ i = .int .i64 k ∧ OwnInts w1.heap.size wr o ((List.range k).map fun x => ((x : Nat) : Int)) ∧ Below w1.heap.size w1 wr)
    (fun _ i _ => n - (intOf i).toNat)
  case atStart => exact ⟨0, Nat.zero_le _, rfl, by rw [HSZ.out]; exact hown, hb2⟩
  case round =>
    clear hown hb2
    obtain ⟨k, hk, rfl, ho, hbi⟩ := hrel
    have y := y0.up hbi
    obtain ⟨c0, c1, c2, hH⟩ := id y
    by_cases hlt : k < n
    · have t0 : decide ((k : Int) < B.cells) = true := by simp; omega
      have hll : ((List.range k).map fun x => ((x : Nat) : Int)).length = k := by simp
      have hre : ((List.range (k + 1)).map fun x => ((x : Nat) : Int)) = ((List.range k).map fun x => ((x : Nat) : Int)) ++ [(k : Int)] := by simp [List.range_succ]
      generalize ((List.range k).map fun x => ((x : Nat) : Int)) = L at ho hll hre
      have HRE := Lib.hid hre
      have HLN := Lib.hid (show L.length ≤ 64 by omega)
      have hAB : Below wr.heap.size wr (wr.alloc (.cells #[.int .i64 k] 3)) := (Below.refl _ _).alloc (Nat.le_refl _) _
      have HNA := Lib.hid (ho.alters (S := fun _ => False) (Alters.of_below hAB) (fun _ h => h.elim))
      have HO := Lib.hid ho
      clear ho hll hre
      go_wp2_with (at_builtin; go_loud (refine wpList_push rfl (.tmp 17) (.tmp 19) rfl w1.heap.size _ L rfl HNA.out (by have := HLN.out; omega) (Nat.le_trans hbi.size hAB.size) ⟨wr.heap.size, 0, none⟩ k rfl (cell_new_at _ _ _ _ _ _ rfl rfl) ?_; intro g6 cap6 w6 hown6 hg6 hat6))
      have hb6 := push_below hbi hAB hbi.size HO.out hg6
      clear hat6
      go_roundw
      case rel => exact ⟨k + 1, by omega, by simp, by rw [HRE.out]; exact hown6, hb6⟩
      case measure => simp [intOf]; omega
    · obtain rfl : k = n := by omega
      have t0 : decide ((k : Int) < B.cells) = false := by simp; omega
      have hp0 := PIn.start B k
      generalize ((List.range k).map fun x => ((x : Nat) : Int)) = L at ho hp0
      rcases ho.form with ⟨_, h0⟩ | ⟨g, cap, rfl, hg1, hg2⟩
      · have := hp0.len; rw [h0] at this; simp at this; omega
      have hLl := hp0.len
      rw [hLl] at ho ⊢
      have HLL := Lib.hid hLl
      clear hLl
      go_wp2_with fail
      clear c0 c1 c2 hH y
      go_loopw [5] (fun cv wr => ∃ (ch : Bool) (out : List Int), cv = .bool ch ∧ Hid (PIn B k out) ∧ Hid (ch = false → ∀ d, d < B.next.length → ∀ c, c < k → agreeP B out d c) ∧ OwnInts w1.heap.size wr (.slice (some ⟨g, 0, none⟩) k cap) out ∧ Below w1.heap.size w1 wr)
        (fun cv wr => 2 * sumC g k wr + flagN cv)
      case atStart => exact ⟨true, L, rfl, Lib.hid hp0, Lib.hid (fun h => by cases h), ho, hbi⟩
      case round =>
        clear hp0 ho hbi
        obtain ⟨ch, out, rfl, HP, HA, ho, hbi⟩ := hrel
        cases ch with
        | false =>
          have HO := Lib.hid (HP.out.done hB HN.out (HA.out rfl))
          go_wp2
          go_ret
          rw [HB1.out, ← HO.out]
          exact ⟨_, rfl, OwnInts.mono ho (Nat.le_of_lt hbs), hbw0.trans (hbi.mono (Nat.le_of_lt hbs))⟩
        | true =>
          have HSC := Lib.hid (sumC_of ho HP.out.len)
          go_wp2_with fail
          go_loopw [5, 6] (fun cv dv wd => ∃ (ch : Bool) (d : Nat) (o2 : List Int), cv = .bool ch ∧ d ≤ B.next.length ∧ dv = .int .i64 d ∧ Hid (PIn B k o2) ∧ Hid (sumL o2 ≤ sumL out ∧ (ch = true → sumL o2 < sumL out)) ∧ Hid (ch = false → ∀ d', d' < d → ∀ c, c < k → agreeP B o2 d' c) ∧ OwnInts w1.heap.size wd (.slice (some ⟨g, 0, none⟩) k cap) o2 ∧ Below w1.heap.size w1 wd)
            (fun _ dv _ => B.next.length - (intOf dv).toNat)
          case atStart => exact ⟨false, 0, out, rfl, Nat.zero_le _, rfl, HP, Lib.hid ⟨Nat.le_refl _, fun h => by cases h⟩, Lib.hid (fun _ d' hd' => absurd hd' (Nat.not_lt_zero _)), ho, hbi⟩
          case round =>
            clear HP HA ho hbi
            obtain ⟨ch, d, o2, rfl, hd, rfl, HP, HS, HA, ho, hbi⟩ := hrel
            obtain ⟨c0, c1, c2, _⟩ := y0.up hbi
            by_cases hdl : d < B.next.length
            · go_wp2_with fail
              clear c0 c1 c2
              go_loopw [5, 7] (fun cv iv wi => ∃ (ch : Bool) (c : Nat) (o3 : List Int), cv = .bool ch ∧ c ≤ k ∧ iv = .int .i64 c ∧ Hid (PIn B k o3) ∧ Hid (sumL o3 ≤ sumL out ∧ (ch = true → sumL o3 < sumL out)) ∧ Hid (ch = false → (∀ d', d' < d → ∀ c, c < k → agreeP B o3 d' c) ∧ ∀ c', c' < c → agreeP B o3 d c') ∧ OwnInts w1.heap.size wi (.slice (some ⟨g, 0, none⟩) k cap) o3 ∧ Below w1.heap.size w1 wi)
                (fun _ iv _ => k - (intOf iv).toNat)
              case atStart => exact ⟨ch, 0, o2, rfl, Nat.zero_le _, rfl, HP, HS, Lib.hid (fun h => ⟨HA.out h, fun c' hc' => absurd hc' (Nat.not_lt_zero _)⟩), ho, hbi⟩
              case round =>
                clear HP HS HA ho hbi
                obtain ⟨ch, c, o3, rfl, hc, rfl, HP, HS, HA, ho, hbi⟩ := hrel
                obtain ⟨c0, c1, c2, hH⟩ := y0.up hbi
                by_cases hcl : c < k
                · have t0 : decide ((c : Int) < B.cells) = true := by simp; omega
                  obtain ⟨br, off, aj, cj, hab, hbN, hcr, hI⟩ := hH.1.at_ hdl
                  subst hab
                  have hrl := hB.row d hdl
                  have hag : agreeP B o3 d c ↔ ((B.next[d]?.getD [])[c]?.getD 0 < 0 ∨ o3[((B.next[d]?.getD [])[c]?.getD 0).toNat]?.getD 0 = o3[c]?.getD 0) := Iff.rfl
                  have hstep := fun x => HP.out.step hB HN.out (x := x) hdl hcl
                  have hlink := fun x => link_of hB HN.out (x := x) hdl hcl
                  generalize B.next[d]?.getD [] = r at hcr hI hrl hag hstep hlink
                  have hcr2 : c < r.length := by omega
                  obtain ⟨b2, off2, haj, hb2, hcc⟩ := hI.at_ (j := c) hcr2
                  subst haj
                  generalize r[c]?.getD 0 = x at hcc hag hstep hlink
                  have hlo3 := HP.out.len
                  obtain ⟨hoc, hfc⟩ := OwnInts.cellAt ho (j := c) (by omega)
                  have HAG := Lib.hid hag
                  clear hag hrl hI hH
                  by_cases hx : x < 0
                  · have u1 : decide (x < 0) = true := by simpa using hx
                    have HAN := Lib.hid (fun h : ch = false => (⟨(HA.out h).1, fun c' hc' => (by
                      by_cases e : c' = c
                      · rw [e]; exact HAG.out.2 (.inl hx)
                      · exact (HA.out h).2 c' (by omega))⟩ : (∀ d', d' < d → ∀ c, c < k → agreeP B o3 d' c) ∧ ∀ c', c' < c + 1 → agreeP B o3 d c'))
                    clear hstep hlink hlo3 hoc hfc hx
                    go_wp2_with fail
                    go_quiet (fail)
                    go_wp2
                    go_roundw
                    case rel => exact ⟨ch, c + 1, o3, rfl, by omega, by simp, HP, HS, HAN, ho, below_drewN_ hbi _⟩
                    case measure => simp [intOf]; omega
                  · have u1 : decide (x < 0) = false := by simpa using hx
                    obtain ⟨xx, rfl⟩ := Int.eq_ofNat_of_zero_le (show 0 ≤ x by omega)
                    obtain ⟨hxk, _⟩ := hlink xx rfl
                    replace hstep := hstep xx rfl
                    clear hlink hx
                    have hag2 := HAG.out
                    rw [Int.toNat_natCast] at hag2
                    obtain ⟨hox, hfx⟩ := OwnInts.cellAt ho (j := xx) (by omega)
                    have hxi : (xx : Int) < (k : Int) := by omega
                    have hci : (c : Int) < (k : Int) := by omega
                    have hne0 : xx = c → o3[xx]?.getD 0 = o3[c]?.getD 0 := fun e => by rw [e]
                    generalize o3[xx]?.getD 0 = ox at hox hstep hag2 hne0
                    generalize o3[c]?.getD 0 = oc at hoc hstep hag2 hne0
                    by_cases he : ox = oc
                    · have u2 : (ox == oc) = true := by simpa using he
                      have u3 : decide (ox = oc) = true := by simpa using he
                      have HAN := Lib.hid (fun h : ch = false => (⟨(HA.out h).1, fun c' hc' => (by
                        by_cases e : c' = c
                        · rw [e]; exact hag2.2 (.inr he)
                        · exact (HA.out h).2 c' (by omega))⟩ : (∀ d', d' < d → ∀ c, c < k → agreeP B o3 d' c) ∧ ∀ c', c' < c + 1 → agreeP B o3 d c'))
                      clear hstep hag2 he hlo3 hne0
                      go_wp2_with fail
                      go_quiet (fail)
                      go_wp2
                      go_roundw
                      case rel => exact ⟨ch, c + 1, o3, rfl, by omega, by simp, HP, HS, HAN, ho, below_drewN_ hbi _⟩
                      case measure => simp [intOf]; omega
                    · have u2 : (ox == oc) = false := by simpa using he
                      have u3 : decide (ox = oc) = false := by simpa using he
                      have HST := Lib.hid (hstep he)
                      have hxc : ¬ xx = c := fun e => he (hne0 e)
                      have hcx : ¬ c = xx := fun e => he (hne0 e.symm)
                      clear hstep hag2 he hlo3 hne0
                      go_wp2_with fail
                      go_quiet (fail)
                      go_wp2_with fail
                      generalize hwq : wr.drewN _ = wq
                      have hbq : Below wr.heap.size wr wq := by rw [← hwq]; exact below_drewN_ (Below.refl _ _) _
                      have hbiq := below_step hbi hbq
                      have hoq := ho.alters (S := fun _ => False) (Alters.of_below hbq) (fun _ h => h.elim)
                      replace hfx := frozen_keep hbq hox hfx
                      replace hfc := frozen_keep hbq hoc hfc
                      replace hox := cell_keep hbq hox
                      replace hoc := cell_keep hbq hoc
                      clear hwq hbq ho hbi c0 c1 c2 hcr hcc
                      go_quiet (fail)
                      generalize hwz : wq.drewN _ = wz
                      generalize min ox oc = lm at HST ⊢
                      have hbz : Below wq.heap.size wq wz := by rw [← hwz]; exact below_drewN_ (Below.refl _ _) _
                      have hbiz := below_step hbiq hbz
                      have hoz := hoq.alters (S := fun _ => False) (Alters.of_below hbz) (fun _ h => h.elim)
                      replace hfx := frozen_keep hbz hox hfx
                      replace hfc := frozen_keep hbz hoc hfc
                      replace hox := cell_keep hbz hox
                      replace hoc := cell_keep hbz hoc
                      have HSET := Lib.hid ((hoz.set xx lm).set c lm)
                      have HB := Lib.hid ((hbiz.setCell (p := ⟨g, xx, none⟩) (by show w1.heap.size ≤ g; omega) (.int .i64 lm)).setCell (p := ⟨g, c, none⟩) (by show w1.heap.size ≤ g; omega) (.int .i64 lm))
                      clear hwz hbz hoq hbiq hbiz hoz
                      go_wp2_with fail
                      go_roundw
                      case rel => exact ⟨true, c + 1, _, rfl, by omega, by simp, Lib.hid HST.out.1, Lib.hid ⟨Nat.le_of_lt (Nat.lt_of_lt_of_le HST.out.2 HS.out.1), fun _ => Nat.lt_of_lt_of_le HST.out.2 HS.out.1⟩, Lib.hid (fun h => by cases h), HSET.out, HB.out⟩
                      case measure => simp [intOf]; omega
                · have t0 : decide ((c : Int) < B.cells) = false := by simp; omega
                  have HAN := Lib.hid (fun h : ch = false => (fun d' hd' c2 hc2 => (by
                    by_cases e : d' = d
                    · rw [e]; exact (HA.out h).2 c2 (by omega)
                    · exact (HA.out h).1 d' (by omega) c2 hc2) : ∀ d', d' < d + 1 → ∀ c, c < k → agreeP B o3 d' c))
                  go_wp2
                  go_roundw
                  case rel => exact ⟨ch, d + 1, o3, rfl, by omega, by simp, HP, HS, HAN, ho, hbi⟩
                  case measure => simp [intOf]; omega
            · have t1 : decide ((d : Int) < (B.next.length : Int)) = false := by simp; omega
              have HAN := Lib.hid (fun h : ch = false => (fun d' hd' c2 hc2 => HA.out h d' (by omega) c2 hc2 : ∀ d', d' < B.next.length → ∀ c, c < k → agreeP B o2 d' c))
              have hsc := sumC_of ho HP.out.len
              have HSN := Lib.hid hsc
              clear hsc
              go_wp2
              go_roundw
              case rel => exact ⟨ch, o2, rfl, HP, HAN, ho, hbi⟩
              case measure =>
                have h1 := HSC.out
                have h2 := HSN.out
                have h3 := HS.out
                rw [h1, h2]
                cases ch with
                | false => simp only [flagN]; omega
                | true => have := h3.2 rfl; simp only [flagN]; omega
end Go.Proofs.YtcpjkilnbhfpjaaDoor

namespace Go.Proofs.YtcpjkilnbhfpjaaDoor
open Go Go.RowKit Go.Shelf

def woS (B : Brd) (c : Int) : Brd := if 0 ≤ c ∧ c < B.cells then withoutS B c else ⟨0, [], []⟩
def woC (B : Brd) (c : Int) : Int := if 0 ≤ c ∧ c < B.cells then 0 else 1

theorem lineTo_len (B : Brd) (dd c : Int) : ∀ (k : Nat) (pre : List Int) (last : Int), (lineTo B dd c k pre last).length ≤ k + pre.length
  | 0, pre, last => by simp [lineTo]
  | k + 1, pre, last => by
    by_cases hs : nextS B dd last < 0 ∨ nextS B dd last = c ∨ nextS B dd last ∈ pre
    · rw [lineTo_stop B dd c (k + 1) pre _ hs]; omega
    · rw [lineTo_go B dd c k pre _ hs]
      have := lineTo_len B dd c k (pre ++ [nextS B dd last]) (nextS B dd last)
      simp only [List.length_append, List.length_singleton] at this
      omega
theorem line_len (B : Brd) (s d c : Int) : (lineOf B s d c).length ≤ 64 := by
  have := lineTo_len B (meantS B.turn s d) c 64 [] c
  simp only [List.length_nil, Nat.add_zero] at this
  exact this

theorem wo_prog {B : Brd} (hs : Small B) (an at_ : Option Addr) (cn ct : Nat) (c : Int) (w : World) (hH : Held w.heap.size w an at_ B) :
    Calls Tryd.prog 20 #[B.val an cn at_ ct, .int .i64 c] w fun e W' => ∃ an' cn' at' ct', e = .returned (.tuple #[(woS B c).val an' cn' at' ct', .int .i64 (woC B c)]) ∧ Held W'.heap.size W' an' at' (woS B c) ∧ Below w.heap.size w W' := by
  unfold woS woC
  by_cases h : 0 ≤ c ∧ c < B.cells
  · rw [if_pos h, if_pos h]
    exact without_any B hs.ok hs.turn1 an at_ cn ct c h.1 h.2 _ w (Nat.le_refl _) hH
  · rw [if_neg h, if_neg h]
    refine (without_bad B.cells _ _ c w (by omega) hs.ok.hi).mono fun e w' ⟨he, hb⟩ => ⟨none, 0, none, 0, he, ⟨.inl rfl, .inl rfl⟩, hb⟩

theorem wo_ref {B : Brd} (hs : Small B) (an at_ : Option Addr) (cn ct : Nat) (c : Int) (w : World) (hH : Held w.heap.size w an at_ B) :
    Calls Tryd.prog 21 #[B.val an cn at_ ct, .int .i64 c] w fun e W' => ∃ an' cn' at' ct', e = .returned (.tuple #[(woS B c).val an' cn' at' ct', .int .i64 (woC B c)]) ∧ Held W'.heap.size W' an' at' (woS B c) ∧ Below w.heap.size w W' := by
  unfold woS woC
  by_cases h : 0 ≤ c ∧ c < B.cells
  · rw [if_pos h, if_pos h]
    exact refWo_any B hs.ok hs.turn1 an at_ cn ct c h.1 h.2 w hH
  · rw [if_neg h, if_neg h]
    refine (refWo_bad B.cells _ _ c w (by omega)).mono fun e w' ⟨he, hb⟩ => ⟨none, 0, none, 0, he, ⟨.inl rfl, .inl rfl⟩, hb⟩

theorem woS_small {B : Brd} (hs : Small B) (c : Int) : (woS B c).next.length ≤ 2000 ∧ (∀ r ∈ (woS B c).next, r.length ≤ 2000) ∧ (woS B c).turn.length ≤ 2000 := by
  unfold woS
  split
  · refine ⟨?_, ?_, ?_⟩
    · have := hs.dirs; simp [withoutS]; omega
    · intro r hr
      simp only [withoutS, List.mem_map] at hr
      obtain ⟨q, hq, rfl⟩ := hr
      rw [outRow_len]
      have := hs.rows q hq
      omega
    · have := hs.turns; simp only [withoutS]; omega
  · simp

theorem ints_same (l : List Int) (a a2 : Option Addr) (ct c2 N : Nat) (w : World) (hl : l.length ≤ 2000) (hI : Ints N w a l) (hI2 : Ints N w a2 l) :
    Calls Tryd.prog 15 #[.slice a l.length ct, .slice a2 l.length c2] w fun e w' => e = .returned (.bool true) ∧ Below w.heap.size w w' := by
  refine (ints_any l l a a2 ct c2 N w hl hI hI2).mono fun e w' ⟨he, q, hw⟩ => ?_
  subst hw
  exact ⟨by rw [he]; simp, below_drewN_ (Below.refl _ _) q⟩
theorem lists_same (l : List (List Int)) (a a2 : Option Addr) (ct c2 N : Nat) (w : World) (hl : l.length ≤ 2000) (hr : ∀ r ∈ l, r.length ≤ 2000) (hI : Rws N w a l) (hI2 : Rws N w a2 l) :
    Calls Tryd.prog 22 #[.slice a l.length ct, .slice a2 l.length c2] w fun e w' => e = .returned (.bool true) ∧ Below w.heap.size w w' := by
  refine (lists_any l l a a2 ct c2 N w hl hr hI hI2).mono fun e w' ⟨he, q, hw⟩ => ?_
  subst hw
  exact ⟨by rw [he]; simp, below_drewN_ (Below.refl _ _) q⟩
theorem farS_small {B : Brd} {n : Nat} (hn : B.cells = n) (h64 : n ≤ 64) : (farS B).length ≤ 2000 ∧ ∀ r ∈ farS B, r.length ≤ 2000 := by
  refine ⟨by rw [farS_len hn]; omega, fun r hr => ?_⟩
  obtain ⟨j, hj⟩ := List.getElem?_of_mem hr
  have hjl := (List.getElem?_eq_some_iff.1 hj).1
  rw [farS_len hn] at hjl
  have := farS_get hn hjl
  rw [hj, Option.getD_some] at this
  rw [this, dist_len]
  omega

theorem far_rows {B : Brd} (hs : Small B) (an at_ : Option Addr) (cn ct : Nat) (N : Nat) (w : World) (hN : N ≤ w.heap.size) (hH : Held N w an at_ B) :
    Calls Tryd.prog 23 #[B.val an cn at_ ct] w fun e W' => ∃ a cap, e = .returned (.slice a (farS B).length cap) ∧ Rws W'.heap.size W' a (farS B) ∧ Below w.heap.size w W' := by
  obtain ⟨n, hn⟩ := Int.eq_ofNat_of_zero_le (show 0 ≤ B.cells by have := hs.ok.lo; omega)
  rw [show (farS B).length = n from farS_len hn]
  refine (far_any B hs.valid n hn an at_ cn ct N w hN hH).mono fun e W' ⟨G, vs, he, ho, hb, _⟩ => ⟨_, _, he, ho.rws, hb⟩
theorem refFar_rows {B : Brd} (hs : Small B) (an at_ : Option Addr) (cn ct : Nat) (w : World) (hH : Held w.heap.size w an at_ B) :
    Calls Tryd.prog 24 #[B.val an cn at_ ct] w fun e W' => ∃ a cap, e = .returned (.slice a (farS B).length cap) ∧ Rws W'.heap.size W' a (farS B) ∧ Below w.heap.size w W' := by
  refine (refFar_any B hs.ok an at_ cn ct w hH).mono fun e W' ⟨v, vs, he, ho, hb⟩ => ?_
  obtain ⟨a, cap, rfl, hr⟩ := ho.rws
  exact ⟨a, cap, he, hr, hb⟩
theorem far_small {B : Brd} (hs : Small B) : (farS B).length ≤ 2000 ∧ (∀ r ∈ farS B, r.length ≤ 2000) ∧ (partsS B).length ≤ 2000 := by
  obtain ⟨n, hn⟩ := Int.eq_ofNat_of_zero_le (show 0 ≤ B.cells by have := hs.ok.lo; omega)
  have h8 := hs.cells
  obtain ⟨h1, h2⟩ := farS_small hn (by omega)
  exact ⟨h1, h2, by rw [parts_len hn]; omega⟩

set_option maxRecDepth 100000 in
set_option maxHeartbeats 8000000 in
theorem refs_any (xs : Array Value) (x0 x1 x2 : Nat) (nx : Nat → Nat) (hx : RawIn xs x0 x1 x2 nx) (a0 a1 a2 a3 : Int) (l0 : -32768 ≤ a0 ∧ a0 ≤ 32767) (l1 : -32768 ≤ a1 ∧ a1 ≤ 32767) (l2 : -32768 ≤ a2 ∧ a2 ≤ 32767) (l3 : -32768 ≤ a3 ∧ a3 ≤ 32767) (w : World) (hR : RaysIn w) :
    Calls Tryd.prog 3 #[.agg xs, .agg #[.int .i16 a0, .int .i16 a1, .int .i16 a2, .int .i16 a3]] w fun e w' => e = .returned (.bool true) ∧ Below w.heap.size w w' := by
  obtain ⟨l0a, l0b⟩ := l0
  obtain ⟨l1a, l1b⟩ := l1
  obtain ⟨l2a, l2b⟩ := l2
  obtain ⟨l3a, l3b⟩ := l3
  go_enter Tryd.func3, Tryd.ntmps3
  go_wp2_with fail
  obtain ⟨wb, hwb⟩ : ∃ wb, wb = w.alloc (.cells xs 24) := ⟨_, rfl⟩
  have sb : wb.heap.size = w.heap.size + 1 := by rw [hwb, World.size_alloc]
  have xb : wb.heap[w.heap.size]? = some (.cells xs 24 (0, 0)) := by rw [hwb]; exact World.alloc_heap_new _ _
  have bb : Below w.heap.size w wb := by rw [hwb]; exact below_alloc (Below.refl _ _) _
  rw [← hwb]
  clear hwb
  obtain ⟨wc, hwc⟩ : ∃ wc, wc = wb.alloc (.cells #[.int .i16 a0, .int .i16 a1, .int .i16 a2, .int .i16 a3] 26) := ⟨_, rfl⟩
  have sc : wc.heap.size = w.heap.size + 1 + 1 := by rw [hwc, World.size_alloc, sb]
  have xc : wc.heap[w.heap.size]? = some (.cells xs 24 (0, 0)) := by rw [hwc]; exact (((Below.refl wb.heap.size wb).alloc (Nat.le_refl _) _).block _ (by omega)).trans xb
  have v0 : wc.cell? ⟨w.heap.size + 1, 0, none⟩ = some (.int .i16 a0) := by rw [hwc, ← sb]; exact cell_new_at _ _ _ _ _ _ rfl rfl
  have v1 : wc.cell? ⟨w.heap.size + 1, 1, none⟩ = some (.int .i16 a1) := by rw [hwc, ← sb]; exact cell_new_at _ _ _ _ _ _ rfl rfl
  have v2 : wc.cell? ⟨w.heap.size + 1, 2, none⟩ = some (.int .i16 a2) := by rw [hwc, ← sb]; exact cell_new_at _ _ _ _ _ _ rfl rfl
  have v3 : wc.cell? ⟨w.heap.size + 1, 3, none⟩ = some (.int .i16 a3) := by rw [hwc, ← sb]; exact cell_new_at _ _ _ _ _ _ rfl rfl
  have bc : Below w.heap.size w wc := by rw [hwc]; exact below_alloc bb _
  rw [← hwc]
  clear hwc bb xb sb
  refine (sanity_any wc (hR.up bc)).mono ?_
  rintro e w1 ⟨rfl, hb1⟩
  replace xc := (hb1.block _ (by omega)).trans xc
  replace v0 := cell_keep hb1 v0
  replace v1 := cell_keep hb1 v1
  replace v2 := cell_keep hb1 v2
  replace v3 := cell_keep hb1 v3
  replace bc := below_step bc hb1
  have s1 : w.heap.size + 1 + 1 ≤ w1.heap.size := by have := hb1.size; omega
  clear hb1 sc hR
  go_wp2_with (with_reducible refine wpList_load_row rfl 24 (.tmp 2) rfl w.heap.size rfl 24 xs (0, 0) _ xc Tryd.underlying24 rfl (by rw [hx.size]; exact info_raw) ?_)
  clear xc
  refine (wild_in hx w1).mono ?_
  rintro e w2 ⟨an, cn, at_, ct, rfl, hH2, hb2⟩
  have hsm := wild_small hx
  generalize wildS (1 + x0 % 8) (1 + x1 % 4) x2 nx = B at hH2 hsm ⊢
  have yo := InBox.new cn ct hH2
  have b1c := below_alloc hb2 (.cells #[.int .i64 B.cells, .slice an B.next.length cn, .slice at_ B.turn.length ct] 31)
  have hq : w2.heap.size < (w2.alloc (.cells #[.int .i64 B.cells, .slice an B.next.length cn, .slice at_ B.turn.length ct] 31)).heap.size := by rw [World.size_alloc]; omega
  have hs2 := hb2.size
  replace v0 := cell_keep b1c v0
  replace v1 := cell_keep b1c v1
  replace v2 := cell_keep b1c v2
  replace v3 := cell_keep b1c v3
  replace bc := below_step bc b1c
  have hB := hsm.ok
  clear hb2 hH2 b1c hx
  go_wp2_with fail
  generalize w2.alloc (.cells #[.int .i64 B.cells, .slice an B.next.length cn, .slice at_ B.turn.length ct] 31) = w3 at *
  generalize w2.heap.size = q at *
  obtain ⟨c0, c1, c2, hH⟩ := id yo
  have hto := fun W (hW : Below w3.heap.size w3 W) => to_any B hB an at_ cn ct a0 a1 a2 _ W hW.size (hH.up (Nat.le_refl _) hW)
  have hrto := fun W (hW : Below w3.heap.size w3 W) => refTo_any B hB an at_ cn ct a0 a1 a2 _ W hW.size (hH.up (Nat.le_refl _) hW)
  have hli := fun W (hW : Below w3.heap.size w3 W) => line_any B hB an at_ cn ct a0 a1 a2 _ W hW.size (hH.up (Nat.le_refl _) hW)
  have hrli := fun W (hW : Below w3.heap.size w3 W) => refLine_any B hB an at_ cn ct a0 a1 a2 W ((hH.up (Nat.le_refl _) hW).mono hW.size)
  have hne := fun W (hW : Below w3.heap.size w3 W) => callsIn_wide.1 (near_in B hB an at_ cn ct a2 _ W hW.size (hH.up (Nat.le_refl _) hW))
  have hrne := fun W (hW : Below w3.heap.size w3 W) => refNear_any B hB an at_ cn ct a2 W ((hH.up (Nat.le_refl _) hW).mono hW.size)
  have hll := line_len B a0 a1 a2
  have hnl := near_len hB a2
  generalize toS B a0 a1 a2 = ta at hto hrto
  generalize lineOf B a0 a1 a2 = LA at hli hrli hll
  generalize nearS B a2 = NA at hne hrne hnl
  have HTO := Lib.hid hto
  have HRTO := Lib.hid hrto
  have HLI := Lib.hid hli
  have HRLI := Lib.hid hrli
  have HNE := Lib.hid hne
  have HRNE := Lib.hid hrne
  clear hto hrto hli hrli hne hrne hH
  refine wp_region_held_drew (S := fun w' => w'.cell? ⟨q, 0, none⟩ = some (.int .i64 B.cells) ∧ w'.cell? ⟨q, 1, none⟩ = some (.slice an B.next.length cn) ∧ w'.cell? ⟨q, 2, none⟩ = some (.slice at_ B.turn.length ct)) (by kernel_rfl) ⟨c0, c1, c2⟩ (fun hHeld => ?_)
  have e0 : Below w3.heap.size w3 w3.drew := (Below.refl _ _).drew
  refine wpAnyH_take (i := 0) (oi := { dst := some 26, op := Op.load 31 (Operand.tmp 6), type := 31, pos := "law.go:39", after := #[], guard := none }) (v := ?_) rfl (by kernel_rfl) (by kernel_rfl) (by kernel_rfl) (fun _ _ _ h => h) (Or.inl ⟨by rfl, ?_⟩) (by assumption) ?_
  rotate_left
  · ((intro w hSw; (try dsimp only at hSw); go_simp); try with_reducible rfl)
  (try simp only [Act.put, List.setIfInBounds_toArray, List.set_cons_zero, List.set_cons_succ])
  refine wpAnyH_take (i := 1) (oi := { dst := some 27, op := Op.move (Operand.tmp 7), type := 3, pos := "law.go:39", after := #[], guard := none }) (v := ?_) rfl (by kernel_rfl) (by kernel_rfl) (by kernel_rfl) (fun _ _ _ h => h) (Or.inl ⟨by rfl, ?_⟩) (by assumption) ?_
  rotate_left
  · ((intro w hSw; (try dsimp only at hSw); go_simp); try with_reducible rfl)
  (try simp only [Act.put, List.setIfInBounds_toArray, List.set_cons_zero, List.set_cons_succ])
  refine wpAnyH_take (i := 2) (oi := { dst := some 28, op := Op.move (Operand.tmp 8), type := 3, pos := "law.go:39", after := #[], guard := none }) (v := ?_) rfl (by kernel_rfl) (by kernel_rfl) (by kernel_rfl) (fun _ _ _ h => h) (Or.inl ⟨by rfl, ?_⟩) (by assumption) ?_
  rotate_left
  · ((intro w hSw; (try dsimp only at hSw); go_simp); try with_reducible rfl)
  (try simp only [Act.put, List.setIfInBounds_toArray, List.set_cons_zero, List.set_cons_succ])
  refine wpAnyH_take (i := 3) (oi := { dst := some 29, op := Op.move (Operand.tmp 9), type := 3, pos := "law.go:39", after := #[], guard := none }) (v := ?_) rfl (by kernel_rfl) (by kernel_rfl) (by kernel_rfl) (fun _ _ _ h => h) (Or.inl ⟨by rfl, ?_⟩) (by assumption) ?_
  rotate_left
  · ((intro w hSw; (try dsimp only at hSw); go_simp); try with_reducible rfl)
  (try simp only [Act.put, List.setIfInBounds_toArray, List.set_cons_zero, List.set_cons_succ])
  refine wpAnyH_take (i := 5) (oi := { dst := some 31, op := Op.load 31 (Operand.tmp 6), type := 31, pos := "law.go:39", after := #[], guard := none }) (v := ?_) rfl (by kernel_rfl) (by kernel_rfl) (by kernel_rfl) (fun _ _ _ h => h) (Or.inl ⟨by rfl, ?_⟩) (by assumption) ?_
  rotate_left
  · ((intro w hSw; (try dsimp only at hSw); go_simp); try with_reducible rfl)
  (try simp only [Act.put, List.setIfInBounds_toArray, List.set_cons_zero, List.set_cons_succ])
  refine wpAnyH_take (i := 6) (oi := { dst := some 32, op := Op.move (Operand.tmp 7), type := 3, pos := "law.go:39", after := #[], guard := none }) (v := ?_) rfl (by kernel_rfl) (by kernel_rfl) (by kernel_rfl) (fun _ _ _ h => h) (Or.inl ⟨by rfl, ?_⟩) (by assumption) ?_
  rotate_left
  · ((intro w hSw; (try dsimp only at hSw); go_simp); try with_reducible rfl)
  (try simp only [Act.put, List.setIfInBounds_toArray, List.set_cons_zero, List.set_cons_succ])
  refine wpAnyH_take (i := 7) (oi := { dst := some 33, op := Op.move (Operand.tmp 8), type := 3, pos := "law.go:39", after := #[], guard := none }) (v := ?_) rfl (by kernel_rfl) (by kernel_rfl) (by kernel_rfl) (fun _ _ _ h => h) (Or.inl ⟨by rfl, ?_⟩) (by assumption) ?_
  rotate_left
  · ((intro w hSw; (try dsimp only at hSw); go_simp); try with_reducible rfl)
  (try simp only [Act.put, List.setIfInBounds_toArray, List.set_cons_zero, List.set_cons_succ])
  refine wpAnyH_take (i := 8) (oi := { dst := some 34, op := Op.move (Operand.tmp 9), type := 3, pos := "law.go:39", after := #[], guard := none }) (v := ?_) rfl (by kernel_rfl) (by kernel_rfl) (by kernel_rfl) (fun _ _ _ h => h) (Or.inl ⟨by rfl, ?_⟩) (by assumption) ?_
  rotate_left
  · ((intro w hSw; (try dsimp only at hSw); go_simp); try with_reducible rfl)
  (try simp only [Act.put, List.setIfInBounds_toArray, List.set_cons_zero, List.set_cons_succ])
  refine wpAnyH_ready (rs := [4]) (by kernel_rfl) (by simp) ?_
  refine AllReadyH.cons (o := { dst := some 30, op := Op.call { callee := Callee.value (Operand.func 13), args := #[Operand.tmp 26, Operand.tmp 27, Operand.tmp 28, Operand.tmp 29], argTypes := #[31, 3, 3, 3] }, type := 3, pos := "law.go:39", after := #[{ on := 0, ground := Ground.data }, { on := 1, ground := Ground.data }, { on := 2, ground := Ground.data }, { on := 3, ground := Ground.data }], guard := none }) rfl (fun K hK => ?_) AllReadyH.nil
  refine step_call_g rfl 13 _ _ #[.agg #[.int .i64 B.cells, .slice an B.next.length cn, .slice at_ B.turn.length ct], .int .i64 a0, .int .i64 a1, .int .i64 a2] rfl rfl (enters_of Tryd.func13 (by kernel_rfl) rfl) ((HTO.out _ e0).mono ?_)
  rintro e w4 ⟨rfl, hb4⟩
  have e4 := below_step e0 hb4
  refine ⟨_, rfl, hK.out _ _ ⟨cell_keep e4 c0, cell_keep e4 c1, cell_keep e4 c2⟩ (fun _ => ?_)⟩
  clear hK K
  (try simp only [Act.put, List.setIfInBounds_toArray, List.set_cons_zero, List.set_cons_succ])
  refine wpAnyH_ready (rs := [9]) (by kernel_rfl) (by simp) ?_
  refine AllReadyH.cons (o := { dst := some 35, op := Op.call { callee := Callee.value (Operand.func 14), args := #[Operand.tmp 31, Operand.tmp 32, Operand.tmp 33, Operand.tmp 34], argTypes := #[31, 3, 3, 3] }, type := 3, pos := "law.go:39", after := #[{ on := 5, ground := Ground.data }, { on := 6, ground := Ground.data }, { on := 7, ground := Ground.data }, { on := 8, ground := Ground.data }, { on := 4, ground := Ground.chain }], guard := none }) rfl (fun K hK => ?_) AllReadyH.nil
  refine step_call_g rfl 14 _ _ #[.agg #[.int .i64 B.cells, .slice an B.next.length cn, .slice at_ B.turn.length ct], .int .i64 a0, .int .i64 a1, .int .i64 a2] rfl rfl (enters_of Tryd.func14 (by kernel_rfl) rfl) ((HRTO.out _ e4).mono ?_)
  rintro e w5 ⟨rfl, hb5⟩
  have e5 := below_step e4 hb5
  refine ⟨_, rfl, hK.out _ _ ⟨cell_keep e5 c0, cell_keep e5 c1, cell_keep e5 c2⟩ (fun _ => ?_)⟩
  clear hK K
  (try simp only [Act.put, List.setIfInBounds_toArray, List.set_cons_zero, List.set_cons_succ])
  refine wpAnyH_take (i := 10) (oi := { dst := some 36, op := Op.binOp BinOp.neq 3 (Operand.tmp 30) (Operand.tmp 35) 3, type := 4, pos := "law.go:39", after := #[{ on := 4, ground := Ground.data }, { on := 9, ground := Ground.data }], guard := none }) (v := ?_) rfl (by kernel_rfl) (by kernel_rfl) (by kernel_rfl) (fun _ _ _ h => h) (Or.inl ⟨by rfl, ?_⟩) (by assumption) ?_
  rotate_left
  · ((intro w hSw; (try dsimp only at hSw); go_simp); try with_reducible rfl)
  (try simp only [Act.put, List.setIfInBounds_toArray, List.set_cons_zero, List.set_cons_succ])
  refine wpAnyH_take (i := 11) (oi := { dst := some 37, op := Op.move (Operand.tmp 36), type := 4, pos := "law.go:39", after := #[{ on := 10, ground := Ground.data }, { on := 9, ground := Ground.chain }], guard := none }) (v := ?_) rfl (by kernel_rfl) (by kernel_rfl) (by kernel_rfl) (fun _ _ _ h => h) (Or.inl ⟨by rfl, ?_⟩) (by assumption) ?_
  rotate_left
  · ((intro w hSw; (try dsimp only at hSw); go_simp); try with_reducible rfl)
  (try simp only [Act.put, List.setIfInBounds_toArray, List.set_cons_zero, List.set_cons_succ])
  refine wpAnyH_take (i := 12) (oi := { dst := some 38, op := Op.load 31 (Operand.tmp 6), type := 31, pos := "law.go:39", after := #[{ on := 11, ground := Ground.guard }], guard := some (11, false) }) (v := ?_) rfl (by kernel_rfl) (by kernel_rfl) (by kernel_rfl) (fun _ _ _ h => h) (Or.inl ⟨by rfl, ?_⟩) (by assumption) ?_
  rotate_left
  · ((intro w hSw; (try dsimp only at hSw); go_simp); try with_reducible rfl)
  (try simp only [Act.put, List.setIfInBounds_toArray, List.set_cons_zero, List.set_cons_succ])
  refine wpAnyH_take (i := 13) (oi := { dst := some 39, op := Op.move (Operand.tmp 7), type := 3, pos := "law.go:39", after := #[{ on := 11, ground := Ground.guard }], guard := some (11, false) }) (v := ?_) rfl (by kernel_rfl) (by kernel_rfl) (by kernel_rfl) (fun _ _ _ h => h) (Or.inl ⟨by rfl, ?_⟩) (by assumption) ?_
  rotate_left
  · ((intro w hSw; (try dsimp only at hSw); go_simp); try with_reducible rfl)
  (try simp only [Act.put, List.setIfInBounds_toArray, List.set_cons_zero, List.set_cons_succ])
  refine wpAnyH_take (i := 14) (oi := { dst := some 40, op := Op.move (Operand.tmp 8), type := 3, pos := "law.go:39", after := #[{ on := 11, ground := Ground.guard }], guard := some (11, false) }) (v := ?_) rfl (by kernel_rfl) (by kernel_rfl) (by kernel_rfl) (fun _ _ _ h => h) (Or.inl ⟨by rfl, ?_⟩) (by assumption) ?_
  rotate_left
  · ((intro w hSw; (try dsimp only at hSw); go_simp); try with_reducible rfl)
  (try simp only [Act.put, List.setIfInBounds_toArray, List.set_cons_zero, List.set_cons_succ])
  refine wpAnyH_take (i := 15) (oi := { dst := some 41, op := Op.move (Operand.tmp 9), type := 3, pos := "law.go:39", after := #[{ on := 11, ground := Ground.guard }], guard := some (11, false) }) (v := ?_) rfl (by kernel_rfl) (by kernel_rfl) (by kernel_rfl) (fun _ _ _ h => h) (Or.inl ⟨by rfl, ?_⟩) (by assumption) ?_
  rotate_left
  · ((intro w hSw; (try dsimp only at hSw); go_simp); try with_reducible rfl)
  (try simp only [Act.put, List.setIfInBounds_toArray, List.set_cons_zero, List.set_cons_succ])
  refine wpAnyH_take (i := 17) (oi := { dst := some 43, op := Op.load 31 (Operand.tmp 6), type := 31, pos := "law.go:39", after := #[{ on := 11, ground := Ground.guard }], guard := some (11, false) }) (v := ?_) rfl (by kernel_rfl) (by kernel_rfl) (by kernel_rfl) (fun _ _ _ h => h) (Or.inl ⟨by rfl, ?_⟩) (by assumption) ?_
  rotate_left
  · ((intro w hSw; (try dsimp only at hSw); go_simp); try with_reducible rfl)
  (try simp only [Act.put, List.setIfInBounds_toArray, List.set_cons_zero, List.set_cons_succ])
  refine wpAnyH_take (i := 18) (oi := { dst := some 44, op := Op.move (Operand.tmp 7), type := 3, pos := "law.go:39", after := #[{ on := 11, ground := Ground.guard }], guard := some (11, false) }) (v := ?_) rfl (by kernel_rfl) (by kernel_rfl) (by kernel_rfl) (fun _ _ _ h => h) (Or.inl ⟨by rfl, ?_⟩) (by assumption) ?_
  rotate_left
  · ((intro w hSw; (try dsimp only at hSw); go_simp); try with_reducible rfl)
  (try simp only [Act.put, List.setIfInBounds_toArray, List.set_cons_zero, List.set_cons_succ])
  refine wpAnyH_take (i := 19) (oi := { dst := some 45, op := Op.move (Operand.tmp 8), type := 3, pos := "law.go:39", after := #[{ on := 11, ground := Ground.guard }], guard := some (11, false) }) (v := ?_) rfl (by kernel_rfl) (by kernel_rfl) (by kernel_rfl) (fun _ _ _ h => h) (Or.inl ⟨by rfl, ?_⟩) (by assumption) ?_
  rotate_left
  · ((intro w hSw; (try dsimp only at hSw); go_simp); try with_reducible rfl)
  (try simp only [Act.put, List.setIfInBounds_toArray, List.set_cons_zero, List.set_cons_succ])
  refine wpAnyH_take (i := 20) (oi := { dst := some 46, op := Op.move (Operand.tmp 9), type := 3, pos := "law.go:39", after := #[{ on := 11, ground := Ground.guard }], guard := some (11, false) }) (v := ?_) rfl (by kernel_rfl) (by kernel_rfl) (by kernel_rfl) (fun _ _ _ h => h) (Or.inl ⟨by rfl, ?_⟩) (by assumption) ?_
  rotate_left
  · ((intro w hSw; (try dsimp only at hSw); go_simp); try with_reducible rfl)
  (try simp only [Act.put, List.setIfInBounds_toArray, List.set_cons_zero, List.set_cons_succ])
  refine wpAnyH_ready (rs := [16]) (by kernel_rfl) (by simp) ?_
  refine AllReadyH.cons (o := { dst := some 42, op := Op.call { callee := Callee.value (Operand.func 16), args := #[Operand.tmp 38, Operand.tmp 39, Operand.tmp 40, Operand.tmp 41], argTypes := #[31, 3, 3, 3] }, type := 29, pos := "law.go:39", after := #[{ on := 12, ground := Ground.data }, { on := 13, ground := Ground.data }, { on := 14, ground := Ground.data }, { on := 15, ground := Ground.data }, { on := 11, ground := Ground.chain }, { on := 11, ground := Ground.guard }], guard := some (11, false) }) rfl (fun K hK => ?_) AllReadyH.nil
  refine step_call_g rfl 16 _ _ #[.agg #[.int .i64 B.cells, .slice an B.next.length cn, .slice at_ B.turn.length ct], .int .i64 a0, .int .i64 a1, .int .i64 a2] rfl rfl (enters_of Tryd.func16 (by kernel_rfl) rfl) ((HLI.out _ e5).mono ?_)
  rintro e w6 ⟨v6, rfl, hl6, hb6⟩
  have e6 := below_step e5 hb6
  obtain ⟨a6, k6, rfl, hI6⟩ := OwnInts.ints hl6
  refine ⟨_, rfl, hK.out _ _ ⟨cell_keep e6 c0, cell_keep e6 c1, cell_keep e6 c2⟩ (fun _ => ?_)⟩
  clear hK K
  (try simp only [Act.put, List.setIfInBounds_toArray, List.set_cons_zero, List.set_cons_succ])
  refine wpAnyH_ready (rs := [21]) (by kernel_rfl) (by simp) ?_
  refine AllReadyH.cons (o := { dst := some 47, op := Op.call { callee := Callee.value (Operand.func 17), args := #[Operand.tmp 43, Operand.tmp 44, Operand.tmp 45, Operand.tmp 46], argTypes := #[31, 3, 3, 3] }, type := 29, pos := "law.go:39", after := #[{ on := 17, ground := Ground.data }, { on := 18, ground := Ground.data }, { on := 19, ground := Ground.data }, { on := 20, ground := Ground.data }, { on := 16, ground := Ground.chain }, { on := 11, ground := Ground.guard }], guard := some (11, false) }) rfl (fun K hK => ?_) AllReadyH.nil
  refine step_call_g rfl 17 _ _ #[.agg #[.int .i64 B.cells, .slice an B.next.length cn, .slice at_ B.turn.length ct], .int .i64 a0, .int .i64 a1, .int .i64 a2] rfl rfl (enters_of Tryd.func17 (by kernel_rfl) rfl) ((HRLI.out _ e6).mono ?_)
  rintro e w7 ⟨v7, rfl, hl7, hb7⟩
  have e7 := below_step e6 hb7
  obtain ⟨a7, k7, rfl, hI7⟩ := OwnInts.ints hl7
  have hJ6 := (hI6.up (Nat.le_refl _) hb7).mono hb7.size
  refine ⟨_, rfl, hK.out _ _ ⟨cell_keep e7 c0, cell_keep e7 c1, cell_keep e7 c2⟩ (fun _ => ?_)⟩
  clear hK K
  (try simp only [Act.put, List.setIfInBounds_toArray, List.set_cons_zero, List.set_cons_succ])
  refine wpAnyH_ready (rs := [22]) (by kernel_rfl) (by simp) ?_
  refine AllReadyH.cons (o := { dst := some 48, op := Op.call { callee := Callee.value (Operand.func 15), args := #[Operand.tmp 42, Operand.tmp 47], argTypes := #[29, 29] }, type := 4, pos := "law.go:39", after := #[{ on := 16, ground := Ground.data }, { on := 21, ground := Ground.data }, { on := 21, ground := Ground.chain }, { on := 11, ground := Ground.guard }], guard := some (11, false) }) rfl (fun K hK => ?_) AllReadyH.nil
  refine step_call_g rfl 15 _ _ #[.slice a6 LA.length k6, .slice a7 LA.length k7] rfl rfl (enters_of Tryd.func15 (by kernel_rfl) rfl) ((ints_same LA a6 a7 k6 k7 _ _ (by omega) hJ6 hI7).mono ?_)
  rintro e w8 ⟨rfl, hb8⟩
  have e8 := below_step e7 hb8
  refine ⟨_, rfl, hK.out _ _ ⟨cell_keep e8 c0, cell_keep e8 c1, cell_keep e8 c2⟩ (fun _ => ?_)⟩
  clear hK K
  (try simp only [Act.put, List.setIfInBounds_toArray, List.set_cons_zero, List.set_cons_succ])
  refine wpAnyH_take (i := 23) (oi := { dst := some 49, op := Op.unOp UnOp.not 4 (Operand.tmp 48), type := 4, pos := "law.go:39", after := #[{ on := 22, ground := Ground.data }, { on := 11, ground := Ground.guard }], guard := some (11, false) }) (v := ?_) rfl (by kernel_rfl) (by kernel_rfl) (by kernel_rfl) (fun _ _ _ h => h) (Or.inl ⟨by rfl, ?_⟩) (by assumption) ?_
  rotate_left
  · ((intro w hSw; (try dsimp only at hSw); go_simp); try with_reducible rfl)
  (try simp only [Act.put, List.setIfInBounds_toArray, List.set_cons_zero, List.set_cons_succ])
  refine wpAnyH_take (i := 24) (oi := { dst := some 50, op := Op.pick (Operand.tmp 37) (Operand.const (Value.bool true)) (Operand.tmp 49), type := 4, pos := "law.go:39", after := #[{ on := 11, ground := Ground.data }, { on := 23, ground := Ground.data }], guard := none }) (v := ?_) rfl (by kernel_rfl) (by kernel_rfl) (by kernel_rfl) (fun _ _ _ h => h) (Or.inl ⟨by rfl, ?_⟩) (by assumption) ?_
  rotate_left
  · ((intro w hSw; (try dsimp only at hSw); go_simp); try with_reducible rfl)
  (try simp only [Act.put, List.setIfInBounds_toArray, List.set_cons_zero, List.set_cons_succ])
  refine wpAnyH_take (i := 25) (oi := { dst := some 51, op := Op.move (Operand.tmp 50), type := 4, pos := "law.go:39", after := #[{ on := 24, ground := Ground.data }, { on := 22, ground := Ground.chain }], guard := none }) (v := ?_) rfl (by kernel_rfl) (by kernel_rfl) (by kernel_rfl) (fun _ _ _ h => h) (Or.inl ⟨by rfl, ?_⟩) (by assumption) ?_
  rotate_left
  · ((intro w hSw; (try dsimp only at hSw); go_simp); try with_reducible rfl)
  (try simp only [Act.put, List.setIfInBounds_toArray, List.set_cons_zero, List.set_cons_succ])
  refine wpAnyH_take (i := 26) (oi := { dst := some 52, op := Op.load 31 (Operand.tmp 6), type := 31, pos := "law.go:39", after := #[{ on := 25, ground := Ground.guard }], guard := some (25, false) }) (v := ?_) rfl (by kernel_rfl) (by kernel_rfl) (by kernel_rfl) (fun _ _ _ h => h) (Or.inl ⟨by rfl, ?_⟩) (by assumption) ?_
  rotate_left
  · ((intro w hSw; (try dsimp only at hSw); go_simp); try with_reducible rfl)
  (try simp only [Act.put, List.setIfInBounds_toArray, List.set_cons_zero, List.set_cons_succ])
  refine wpAnyH_take (i := 27) (oi := { dst := some 53, op := Op.move (Operand.tmp 9), type := 3, pos := "law.go:39", after := #[{ on := 25, ground := Ground.guard }], guard := some (25, false) }) (v := ?_) rfl (by kernel_rfl) (by kernel_rfl) (by kernel_rfl) (fun _ _ _ h => h) (Or.inl ⟨by rfl, ?_⟩) (by assumption) ?_
  rotate_left
  · ((intro w hSw; (try dsimp only at hSw); go_simp); try with_reducible rfl)
  (try simp only [Act.put, List.setIfInBounds_toArray, List.set_cons_zero, List.set_cons_succ])
  refine wpAnyH_take (i := 29) (oi := { dst := some 55, op := Op.load 31 (Operand.tmp 6), type := 31, pos := "law.go:39", after := #[{ on := 25, ground := Ground.guard }], guard := some (25, false) }) (v := ?_) rfl (by kernel_rfl) (by kernel_rfl) (by kernel_rfl) (fun _ _ _ h => h) (Or.inl ⟨by rfl, ?_⟩) (by assumption) ?_
  rotate_left
  · ((intro w hSw; (try dsimp only at hSw); go_simp); try with_reducible rfl)
  (try simp only [Act.put, List.setIfInBounds_toArray, List.set_cons_zero, List.set_cons_succ])
  refine wpAnyH_take (i := 30) (oi := { dst := some 56, op := Op.move (Operand.tmp 9), type := 3, pos := "law.go:39", after := #[{ on := 25, ground := Ground.guard }], guard := some (25, false) }) (v := ?_) rfl (by kernel_rfl) (by kernel_rfl) (by kernel_rfl) (fun _ _ _ h => h) (Or.inl ⟨by rfl, ?_⟩) (by assumption) ?_
  rotate_left
  · ((intro w hSw; (try dsimp only at hSw); go_simp); try with_reducible rfl)
  (try simp only [Act.put, List.setIfInBounds_toArray, List.set_cons_zero, List.set_cons_succ])
  refine wpAnyH_ready (rs := [28]) (by kernel_rfl) (by simp) ?_
  refine AllReadyH.cons (o := { dst := some 54, op := Op.call { callee := Callee.value (Operand.func 18), args := #[Operand.tmp 52, Operand.tmp 53], argTypes := #[31, 3] }, type := 29, pos := "law.go:39", after := #[{ on := 26, ground := Ground.data }, { on := 27, ground := Ground.data }, { on := 25, ground := Ground.chain }, { on := 25, ground := Ground.guard }], guard := some (25, false) }) rfl (fun K hK => ?_) AllReadyH.nil
  refine step_call_g rfl 18 _ _ #[.agg #[.int .i64 B.cells, .slice an B.next.length cn, .slice at_ B.turn.length ct], .int .i64 a2] rfl rfl (enters_of Tryd.func18 (by kernel_rfl) rfl) ((HNE.out _ e8).mono ?_)
  rintro e w9 ⟨v9, rfl, hl9, hb9⟩
  have e9 := below_step e8 hb9
  obtain ⟨a9, k9, rfl, hI9⟩ := OwnInts.ints hl9
  refine ⟨_, rfl, hK.out _ _ ⟨cell_keep e9 c0, cell_keep e9 c1, cell_keep e9 c2⟩ (fun _ => ?_)⟩
  clear hK K
  (try simp only [Act.put, List.setIfInBounds_toArray, List.set_cons_zero, List.set_cons_succ])
  refine wpAnyH_ready (rs := [31]) (by kernel_rfl) (by simp) ?_
  refine AllReadyH.cons (o := { dst := some 57, op := Op.call { callee := Callee.value (Operand.func 19), args := #[Operand.tmp 55, Operand.tmp 56], argTypes := #[31, 3] }, type := 29, pos := "law.go:39", after := #[{ on := 29, ground := Ground.data }, { on := 30, ground := Ground.data }, { on := 28, ground := Ground.chain }, { on := 25, ground := Ground.guard }], guard := some (25, false) }) rfl (fun K hK => ?_) AllReadyH.nil
  refine step_call_g rfl 19 _ _ #[.agg #[.int .i64 B.cells, .slice an B.next.length cn, .slice at_ B.turn.length ct], .int .i64 a2] rfl rfl (enters_of Tryd.func19 (by kernel_rfl) rfl) ((HRNE.out _ e9).mono ?_)
  rintro e wA ⟨vA, rfl, hlA, hbA⟩
  have eA := below_step e9 hbA
  obtain ⟨aA, kA, rfl, hIA⟩ := OwnInts.ints hlA
  have hJ9 := (hI9.up (Nat.le_refl _) hbA).mono hbA.size
  refine ⟨_, rfl, hK.out _ _ ⟨cell_keep eA c0, cell_keep eA c1, cell_keep eA c2⟩ (fun _ => ?_)⟩
  clear hK K
  (try simp only [Act.put, List.setIfInBounds_toArray, List.set_cons_zero, List.set_cons_succ])
  refine wpAnyH_ready (rs := [32]) (by kernel_rfl) (by simp) ?_
  refine AllReadyH.cons (o := { dst := some 58, op := Op.call { callee := Callee.value (Operand.func 15), args := #[Operand.tmp 54, Operand.tmp 57], argTypes := #[29, 29] }, type := 4, pos := "law.go:39", after := #[{ on := 28, ground := Ground.data }, { on := 31, ground := Ground.data }, { on := 31, ground := Ground.chain }, { on := 25, ground := Ground.guard }], guard := some (25, false) }) rfl (fun K hK => ?_) AllReadyH.nil
  refine step_call_g rfl 15 _ _ #[.slice a9 NA.length k9, .slice aA NA.length kA] rfl rfl (enters_of Tryd.func15 (by kernel_rfl) rfl) ((ints_same NA a9 aA k9 kA _ _ (by omega) hJ9 hIA).mono ?_)
  rintro e wB ⟨rfl, hbB⟩
  have eB := below_step eA hbB
  refine ⟨_, rfl, hK.out _ _ ⟨cell_keep eB c0, cell_keep eB c1, cell_keep eB c2⟩ (fun _ => ?_)⟩
  clear hK K
  (try simp only [Act.put, List.setIfInBounds_toArray, List.set_cons_zero, List.set_cons_succ])
  refine wpAnyH_take (i := 33) (oi := { dst := some 59, op := Op.unOp UnOp.not 4 (Operand.tmp 58), type := 4, pos := "law.go:39", after := #[{ on := 32, ground := Ground.data }, { on := 25, ground := Ground.guard }], guard := some (25, false) }) (v := ?_) rfl (by kernel_rfl) (by kernel_rfl) (by kernel_rfl) (fun _ _ _ h => h) (Or.inl ⟨by rfl, ?_⟩) (by assumption) ?_
  rotate_left
  · ((intro w hSw; (try dsimp only at hSw); go_simp); try with_reducible rfl)
  (try simp only [Act.put, List.setIfInBounds_toArray, List.set_cons_zero, List.set_cons_succ])
  refine wpAnyH_take (i := 34) (oi := { dst := some 60, op := Op.pick (Operand.tmp 51) (Operand.const (Value.bool true)) (Operand.tmp 59), type := 4, pos := "law.go:39", after := #[{ on := 25, ground := Ground.data }, { on := 33, ground := Ground.data }], guard := none }) (v := ?_) rfl (by kernel_rfl) (by kernel_rfl) (by kernel_rfl) (fun _ _ _ h => h) (Or.inl ⟨by rfl, ?_⟩) (by assumption) ?_
  rotate_left
  · ((intro w hSw; (try dsimp only at hSw); go_simp); try with_reducible rfl)
  (try simp only [Act.put, List.setIfInBounds_toArray, List.set_cons_zero, List.set_cons_succ])
  refine wpAnyH_done (by kernel_rfl) ?_ _
  clear hb4 hb5 hb6 hb7 hb8 hb9 hbA hbB hl6 hl7 hl9 hlA hI6 hI7 hI9 hIA hJ6 hJ9 e0 e4 e5 e6 e7 e8 e9 eA HTO HRTO HLI HRLI HNE HRNE hHeld hll hnl
  replace yo := yo.up eB
  replace bc := below_step bc eB
  replace v3 := cell_keep eB v3
  have hq3 : q < wB.heap.size := by have := eB.size; omega
  clear eB c0 c1 c2 v0 v1 v2 hq
  obtain ⟨c0, c1, c2, hH⟩ := id yo
  go_wp2_with fail
  have hwp := wo_prog hsm an at_ cn ct a3 wB hH
  have hwr := fun W hW => wo_ref hsm an at_ cn ct a3 W hW
  have hsa := woS_small hsm a3
  generalize woS B a3 = A at hwp hwr hsa
  generalize woC B a3 = code at hwp hwr
  have HWR := Lib.hid hwr
  have HSA := Lib.hid hsa
  refine hwp.mono ?_
  clear hwp hwr hsa c0 c1 c2 hH
  rintro e wC ⟨an2, cn2, at2, ct2, rfl, hHC, hbC⟩
  have bC := below_alloc hbC (.cells #[.int .i64 A.cells, .slice an2 A.next.length cn2, .slice at2 A.turn.length ct2] 31)
  have ya := InBox.new cn2 ct2 hHC
  replace yo := yo.up bC
  replace bc := below_step bc bC
  replace v3 := cell_keep bC v3
  have hqa : wC.heap.size < (wC.alloc (.cells #[.int .i64 A.cells, .slice an2 A.next.length cn2, .slice at2 A.turn.length ct2] 31)).heap.size := by rw [World.size_alloc]; omega
  clear hbC hHC bC
  obtain ⟨c0, c1, c2, hH⟩ := id yo
  go_wp2_with fail
  generalize wC.alloc (.cells #[.int .i64 A.cells, .slice an2 A.next.length cn2, .slice at2 A.turn.length ct2] 31) = wD at *
  generalize wC.heap.size = qa at *
  refine (HWR.out wD hH).mono ?_
  clear c0 c1 c2 hH
  rintro e wE ⟨an3, cn3, at3, ct3, rfl, hHE, hbE⟩
  have bE := below_alloc hbE (.cells #[.int .i64 A.cells, .slice an3 A.next.length cn3, .slice at3 A.turn.length ct3] 31)
  have yw := InBox.new cn3 ct3 hHE
  replace yo := yo.up bE
  replace ya := ya.up bE
  replace bc := below_step bc bE
  clear hbE hHE bE v3 HWR
  go_wp2_with fail
  generalize wE.alloc (.cells #[.int .i64 A.cells, .slice an3 A.next.length cn3, .slice at3 A.turn.length ct3] 31) = wF at *
  generalize wE.heap.size = qw at *
  obtain ⟨c0, c1, c2, hH⟩ := id yo
  obtain ⟨d0, d1, d2, hHA⟩ := id ya
  obtain ⟨f0, f1, f2, hHW⟩ := id yw
  have hfa := fun W (hW : Below wF.heap.size wF W) => far_rows hsm an at_ cn ct _ W hW.size (hH.up (Nat.le_refl _) hW)
  have hrfa := fun W (hW : Below wF.heap.size wF W) => refFar_rows hsm an at_ cn ct W ((hH.up (Nat.le_refl _) hW).mono hW.size)
  have hpa := fun W (hW : Below wF.heap.size wF W) => callsIn_wide.1 (parts_in B hsm.valid an at_ cn ct _ W hW.size (hH.up (Nat.le_refl _) hW))
  have hrpa := fun W (hW : Below wF.heap.size wF W) => refParts_any B hB an at_ cn ct W ((hH.up (Nat.le_refl _) hW).mono hW.size)
  have hsame := fun W (hW : Below wF.heap.size wF W) => same_any A A an2 at2 an3 at3 cn2 ct2 cn3 ct3 _ W hW.size HSA.out.1 HSA.out.2.1 HSA.out.2.2 (hHA.up (Nat.le_refl _) hW) (hHW.up (Nat.le_refl _) hW)
  rw [sameS_refl] at hsame
  obtain ⟨hf1, hf2, hf3⟩ := far_small hsm
  generalize farS B = FL at hfa hrfa hf1 hf2
  generalize partsS B = PL at hpa hrpa hf3
  have HFA := Lib.hid hfa
  have HRFA := Lib.hid hrfa
  have HPA := Lib.hid hpa
  have HRPA := Lib.hid hrpa
  have HSAME := Lib.hid hsame
  have HF2 := Lib.hid hf2
  clear hfa hrfa hpa hrpa hsame hH hHA hHW yo ya yw hf2 HSA hB hsm
  refine wp_region_held_drew (S := fun w' => w'.cell? ⟨q, 0, none⟩ = some (.int .i64 B.cells) ∧ w'.cell? ⟨q, 1, none⟩ = some (.slice an B.next.length cn) ∧ w'.cell? ⟨q, 2, none⟩ = some (.slice at_ B.turn.length ct) ∧ w'.cell? ⟨qa, 0, none⟩ = some (.int .i64 A.cells) ∧ w'.cell? ⟨qa, 1, none⟩ = some (.slice an2 A.next.length cn2) ∧ w'.cell? ⟨qa, 2, none⟩ = some (.slice at2 A.turn.length ct2) ∧ w'.cell? ⟨qw, 0, none⟩ = some (.int .i64 A.cells) ∧ w'.cell? ⟨qw, 1, none⟩ = some (.slice an3 A.next.length cn3) ∧ w'.cell? ⟨qw, 2, none⟩ = some (.slice at3 A.turn.length ct3)) (by kernel_rfl) ⟨c0, c1, c2, d0, d1, d2, f0, f1, f2⟩ (fun hHeld => ?_)
  have e0 : Below wF.heap.size wF wF.drew := (Below.refl _ _).drew
  refine wpAnyH_take (i := 0) (oi := { dst := some 77, op := Op.move (Operand.tmp 5), type := 4, pos := "law.go:44", after := #[], guard := none }) (v := ?_) rfl (by kernel_rfl) (by kernel_rfl) (by kernel_rfl) (fun _ _ _ h => h) (Or.inl ⟨by rfl, ?_⟩) (by assumption) ?_
  rotate_left
  · ((intro w hSw; (try dsimp only at hSw); go_simp); try with_reducible rfl)
  (try simp only [Act.put, List.setIfInBounds_toArray, List.set_cons_zero, List.set_cons_succ])
  refine wpAnyH_take (i := 1) (oi := { dst := some 78, op := Op.move (Operand.tmp 77), type := 4, pos := "law.go:44", after := #[{ on := 0, ground := Ground.data }], guard := none }) (v := ?_) rfl (by kernel_rfl) (by kernel_rfl) (by kernel_rfl) (fun _ _ _ h => h) (Or.inl ⟨by rfl, ?_⟩) (by assumption) ?_
  rotate_left
  · ((intro w hSw; (try dsimp only at hSw); go_simp); try with_reducible rfl)
  (try simp only [Act.put, List.setIfInBounds_toArray, List.set_cons_zero, List.set_cons_succ])
  refine wpAnyH_take (i := 2) (oi := { dst := some 79, op := Op.load 31 (Operand.tmp 6), type := 31, pos := "law.go:44", after := #[{ on := 1, ground := Ground.guard }], guard := some (1, true) }) (v := ?_) rfl (by kernel_rfl) (by kernel_rfl) (by kernel_rfl) (fun _ _ _ h => h) (Or.inl ⟨by rfl, ?_⟩) (by assumption) ?_
  rotate_left
  · ((intro w hSw; (try dsimp only at hSw); go_simp); try with_reducible rfl)
  (try simp only [Act.put, List.setIfInBounds_toArray, List.set_cons_zero, List.set_cons_succ])
  refine wpAnyH_take (i := 4) (oi := { dst := some 81, op := Op.load 31 (Operand.tmp 6), type := 31, pos := "law.go:44", after := #[{ on := 1, ground := Ground.guard }], guard := some (1, true) }) (v := ?_) rfl (by kernel_rfl) (by kernel_rfl) (by kernel_rfl) (fun _ _ _ h => h) (Or.inl ⟨by rfl, ?_⟩) (by assumption) ?_
  rotate_left
  · ((intro w hSw; (try dsimp only at hSw); go_simp); try with_reducible rfl)
  (try simp only [Act.put, List.setIfInBounds_toArray, List.set_cons_zero, List.set_cons_succ])
  refine wpAnyH_ready (rs := [3]) (by kernel_rfl) (by simp) ?_
  refine AllReadyH.cons (o := { dst := some 80, op := Op.call { callee := Callee.value (Operand.func 23), args := #[Operand.tmp 79], argTypes := #[31] }, type := 28, pos := "law.go:44", after := #[{ on := 2, ground := Ground.data }, { on := 1, ground := Ground.chain }, { on := 1, ground := Ground.guard }], guard := some (1, true) }) rfl (fun K hK => ?_) AllReadyH.nil
  refine step_call_g rfl 23 _ _ #[.agg #[.int .i64 B.cells, .slice an B.next.length cn, .slice at_ B.turn.length ct]] rfl rfl (enters_of Tryd.func23 (by kernel_rfl) rfl) ((HFA.out _ e0).mono ?_)
  rintro e u1 ⟨a6, k6, rfl, hI6, hb1⟩
  have g1 := below_step e0 hb1
  refine ⟨_, rfl, hK.out _ _ ⟨cell_keep g1 c0, cell_keep g1 c1, cell_keep g1 c2, cell_keep g1 d0, cell_keep g1 d1, cell_keep g1 d2, cell_keep g1 f0, cell_keep g1 f1, cell_keep g1 f2⟩ (fun _ => ?_)⟩
  clear hK K
  (try simp only [Act.put, List.setIfInBounds_toArray, List.set_cons_zero, List.set_cons_succ])
  refine wpAnyH_ready (rs := [5]) (by kernel_rfl) (by simp) ?_
  refine AllReadyH.cons (o := { dst := some 82, op := Op.call { callee := Callee.value (Operand.func 24), args := #[Operand.tmp 81], argTypes := #[31] }, type := 28, pos := "law.go:44", after := #[{ on := 4, ground := Ground.data }, { on := 3, ground := Ground.chain }, { on := 1, ground := Ground.guard }], guard := some (1, true) }) rfl (fun K hK => ?_) AllReadyH.nil
  refine step_call_g rfl 24 _ _ #[.agg #[.int .i64 B.cells, .slice an B.next.length cn, .slice at_ B.turn.length ct]] rfl rfl (enters_of Tryd.func24 (by kernel_rfl) rfl) ((HRFA.out _ g1).mono ?_)
  rintro e u2 ⟨a7, k7, rfl, hI7, hb2⟩
  have g2 := below_step g1 hb2
  have hJ6 := (hI6.up (Nat.le_refl _) hb2).mono hb2.size
  refine ⟨_, rfl, hK.out _ _ ⟨cell_keep g2 c0, cell_keep g2 c1, cell_keep g2 c2, cell_keep g2 d0, cell_keep g2 d1, cell_keep g2 d2, cell_keep g2 f0, cell_keep g2 f1, cell_keep g2 f2⟩ (fun _ => ?_)⟩
  clear hK K
  (try simp only [Act.put, List.setIfInBounds_toArray, List.set_cons_zero, List.set_cons_succ])
  refine wpAnyH_ready (rs := [6]) (by kernel_rfl) (by simp) ?_
  refine AllReadyH.cons (o := { dst := some 83, op := Op.call { callee := Callee.value (Operand.func 22), args := #[Operand.tmp 80, Operand.tmp 82], argTypes := #[28, 28] }, type := 4, pos := "law.go:44", after := #[{ on := 3, ground := Ground.data }, { on := 5, ground := Ground.data }, { on := 5, ground := Ground.chain }, { on := 1, ground := Ground.guard }], guard := some (1, true) }) rfl (fun K hK => ?_) AllReadyH.nil
  refine step_call_g rfl 22 _ _ #[.slice a6 FL.length k6, .slice a7 FL.length k7] rfl rfl (enters_of Tryd.func22 (by kernel_rfl) rfl) ((lists_same FL a6 a7 k6 k7 _ _ hf1 HF2.out hJ6 hI7).mono ?_)
  rintro e u3 ⟨rfl, hb3⟩
  have g3 := below_step g2 hb3
  refine ⟨_, rfl, hK.out _ _ ⟨cell_keep g3 c0, cell_keep g3 c1, cell_keep g3 c2, cell_keep g3 d0, cell_keep g3 d1, cell_keep g3 d2, cell_keep g3 f0, cell_keep g3 f1, cell_keep g3 f2⟩ (fun _ => ?_)⟩
  clear hK K
  (try simp only [Act.put, List.setIfInBounds_toArray, List.set_cons_zero, List.set_cons_succ])
  refine wpAnyH_take (i := 7) (oi := { dst := some 84, op := Op.pick (Operand.tmp 78) (Operand.tmp 83) (Operand.const (Value.bool false)), type := 4, pos := "law.go:44", after := #[{ on := 1, ground := Ground.data }, { on := 6, ground := Ground.data }], guard := none }) (v := ?_) rfl (by kernel_rfl) (by kernel_rfl) (by kernel_rfl) (fun _ _ _ h => h) (Or.inl ⟨by rfl, ?_⟩) (by assumption) ?_
  rotate_left
  · ((intro w hSw; (try dsimp only at hSw); go_simp); try with_reducible rfl)
  (try simp only [Act.put, List.setIfInBounds_toArray, List.set_cons_zero, List.set_cons_succ])
  refine wpAnyH_take (i := 8) (oi := { dst := some 85, op := Op.move (Operand.tmp 84), type := 4, pos := "law.go:44", after := #[{ on := 7, ground := Ground.data }, { on := 6, ground := Ground.chain }], guard := none }) (v := ?_) rfl (by kernel_rfl) (by kernel_rfl) (by kernel_rfl) (fun _ _ _ h => h) (Or.inl ⟨by rfl, ?_⟩) (by assumption) ?_
  rotate_left
  · ((intro w hSw; (try dsimp only at hSw); go_simp); try with_reducible rfl)
  (try simp only [Act.put, List.setIfInBounds_toArray, List.set_cons_zero, List.set_cons_succ])
  refine wpAnyH_take (i := 9) (oi := { dst := some 86, op := Op.load 31 (Operand.tmp 6), type := 31, pos := "law.go:44", after := #[{ on := 8, ground := Ground.guard }], guard := some (8, true) }) (v := ?_) rfl (by kernel_rfl) (by kernel_rfl) (by kernel_rfl) (fun _ _ _ h => h) (Or.inl ⟨by rfl, ?_⟩) (by assumption) ?_
  rotate_left
  · ((intro w hSw; (try dsimp only at hSw); go_simp); try with_reducible rfl)
  (try simp only [Act.put, List.setIfInBounds_toArray, List.set_cons_zero, List.set_cons_succ])
  refine wpAnyH_take (i := 11) (oi := { dst := some 88, op := Op.load 31 (Operand.tmp 6), type := 31, pos := "law.go:44", after := #[{ on := 8, ground := Ground.guard }], guard := some (8, true) }) (v := ?_) rfl (by kernel_rfl) (by kernel_rfl) (by kernel_rfl) (fun _ _ _ h => h) (Or.inl ⟨by rfl, ?_⟩) (by assumption) ?_
  rotate_left
  · ((intro w hSw; (try dsimp only at hSw); go_simp); try with_reducible rfl)
  (try simp only [Act.put, List.setIfInBounds_toArray, List.set_cons_zero, List.set_cons_succ])
  refine wpAnyH_ready (rs := [10]) (by kernel_rfl) (by simp) ?_
  refine AllReadyH.cons (o := { dst := some 87, op := Op.call { callee := Callee.value (Operand.func 25), args := #[Operand.tmp 86], argTypes := #[31] }, type := 29, pos := "law.go:44", after := #[{ on := 9, ground := Ground.data }, { on := 8, ground := Ground.chain }, { on := 8, ground := Ground.guard }], guard := some (8, true) }) rfl (fun K hK => ?_) AllReadyH.nil
  refine step_call_g rfl 25 _ _ #[.agg #[.int .i64 B.cells, .slice an B.next.length cn, .slice at_ B.turn.length ct]] rfl rfl (enters_of Tryd.func25 (by kernel_rfl) rfl) ((HPA.out _ g3).mono ?_)
  rintro e u4 ⟨v9, rfl, hl9, hb4⟩
  have g4 := below_step g3 hb4
  obtain ⟨a9, k9, rfl, hI9⟩ := OwnInts.ints hl9
  refine ⟨_, rfl, hK.out _ _ ⟨cell_keep g4 c0, cell_keep g4 c1, cell_keep g4 c2, cell_keep g4 d0, cell_keep g4 d1, cell_keep g4 d2, cell_keep g4 f0, cell_keep g4 f1, cell_keep g4 f2⟩ (fun _ => ?_)⟩
  clear hK K
  (try simp only [Act.put, List.setIfInBounds_toArray, List.set_cons_zero, List.set_cons_succ])
  refine wpAnyH_ready (rs := [12]) (by kernel_rfl) (by simp) ?_
  refine AllReadyH.cons (o := { dst := some 89, op := Op.call { callee := Callee.value (Operand.func 26), args := #[Operand.tmp 88], argTypes := #[31] }, type := 29, pos := "law.go:44", after := #[{ on := 11, ground := Ground.data }, { on := 10, ground := Ground.chain }, { on := 8, ground := Ground.guard }], guard := some (8, true) }) rfl (fun K hK => ?_) AllReadyH.nil
  refine step_call_g rfl 26 _ _ #[.agg #[.int .i64 B.cells, .slice an B.next.length cn, .slice at_ B.turn.length ct]] rfl rfl (enters_of Tryd.func26 (by kernel_rfl) rfl) ((HRPA.out _ g4).mono ?_)
  rintro e u5 ⟨vA, rfl, hlA, hb5⟩
  have g5 := below_step g4 hb5
  obtain ⟨aA, kA, rfl, hIA⟩ := OwnInts.ints hlA
  have hJ9 := (hI9.up (Nat.le_refl _) hb5).mono hb5.size
  refine ⟨_, rfl, hK.out _ _ ⟨cell_keep g5 c0, cell_keep g5 c1, cell_keep g5 c2, cell_keep g5 d0, cell_keep g5 d1, cell_keep g5 d2, cell_keep g5 f0, cell_keep g5 f1, cell_keep g5 f2⟩ (fun _ => ?_)⟩
  clear hK K
  (try simp only [Act.put, List.setIfInBounds_toArray, List.set_cons_zero, List.set_cons_succ])
  refine wpAnyH_ready (rs := [13]) (by kernel_rfl) (by simp) ?_
  refine AllReadyH.cons (o := { dst := some 90, op := Op.call { callee := Callee.value (Operand.func 15), args := #[Operand.tmp 87, Operand.tmp 89], argTypes := #[29, 29] }, type := 4, pos := "law.go:44", after := #[{ on := 10, ground := Ground.data }, { on := 12, ground := Ground.data }, { on := 12, ground := Ground.chain }, { on := 8, ground := Ground.guard }], guard := some (8, true) }) rfl (fun K hK => ?_) AllReadyH.nil
  refine step_call_g rfl 15 _ _ #[.slice a9 PL.length k9, .slice aA PL.length kA] rfl rfl (enters_of Tryd.func15 (by kernel_rfl) rfl) ((ints_same PL a9 aA k9 kA _ _ hf3 hJ9 hIA).mono ?_)
  rintro e u6 ⟨rfl, hb6⟩
  have g6 := below_step g5 hb6
  refine ⟨_, rfl, hK.out _ _ ⟨cell_keep g6 c0, cell_keep g6 c1, cell_keep g6 c2, cell_keep g6 d0, cell_keep g6 d1, cell_keep g6 d2, cell_keep g6 f0, cell_keep g6 f1, cell_keep g6 f2⟩ (fun _ => ?_)⟩
  clear hK K
  (try simp only [Act.put, List.setIfInBounds_toArray, List.set_cons_zero, List.set_cons_succ])
  refine wpAnyH_take (i := 14) (oi := { dst := some 91, op := Op.pick (Operand.tmp 85) (Operand.tmp 90) (Operand.const (Value.bool false)), type := 4, pos := "law.go:44", after := #[{ on := 8, ground := Ground.data }, { on := 13, ground := Ground.data }], guard := none }) (v := ?_) rfl (by kernel_rfl) (by kernel_rfl) (by kernel_rfl) (fun _ _ _ h => h) (Or.inl ⟨by rfl, ?_⟩) (by assumption) ?_
  rotate_left
  · ((intro w hSw; (try dsimp only at hSw); go_simp); try with_reducible rfl)
  (try simp only [Act.put, List.setIfInBounds_toArray, List.set_cons_zero, List.set_cons_succ])
  refine wpAnyH_take (i := 15) (oi := { dst := some 92, op := Op.move (Operand.tmp 91), type := 4, pos := "law.go:44", after := #[{ on := 14, ground := Ground.data }, { on := 13, ground := Ground.chain }], guard := none }) (v := ?_) rfl (by kernel_rfl) (by kernel_rfl) (by kernel_rfl) (fun _ _ _ h => h) (Or.inl ⟨by rfl, ?_⟩) (by assumption) ?_
  rotate_left
  · ((intro w hSw; (try dsimp only at hSw); go_simp); try with_reducible rfl)
  (try simp only [Act.put, List.setIfInBounds_toArray, List.set_cons_zero, List.set_cons_succ])
  refine wpAnyH_take (i := 16) (oi := { dst := some 93, op := Op.load 31 (Operand.tmp 10), type := 31, pos := "law.go:44", after := #[{ on := 15, ground := Ground.guard }], guard := some (15, true) }) (v := ?_) rfl (by kernel_rfl) (by kernel_rfl) (by kernel_rfl) (fun _ _ _ h => h) (Or.inl ⟨by rfl, ?_⟩) (by assumption) ?_
  rotate_left
  · ((intro w hSw; (try dsimp only at hSw); go_simp); try with_reducible rfl)
  (try simp only [Act.put, List.setIfInBounds_toArray, List.set_cons_zero, List.set_cons_succ])
  refine wpAnyH_take (i := 17) (oi := { dst := some 94, op := Op.load 31 (Operand.tmp 12), type := 31, pos := "law.go:44", after := #[{ on := 15, ground := Ground.guard }], guard := some (15, true) }) (v := ?_) rfl (by kernel_rfl) (by kernel_rfl) (by kernel_rfl) (fun _ _ _ h => h) (Or.inl ⟨by rfl, ?_⟩) (by assumption) ?_
  rotate_left
  · ((intro w hSw; (try dsimp only at hSw); go_simp); try with_reducible rfl)
  (try simp only [Act.put, List.setIfInBounds_toArray, List.set_cons_zero, List.set_cons_succ])
  refine wpAnyH_ready (rs := [18]) (by kernel_rfl) (by simp) ?_
  refine AllReadyH.cons (o := { dst := some 95, op := Op.call { callee := Callee.value (Operand.func 27), args := #[Operand.tmp 93, Operand.tmp 94], argTypes := #[31, 31] }, type := 4, pos := "law.go:44", after := #[{ on := 16, ground := Ground.data }, { on := 17, ground := Ground.data }, { on := 15, ground := Ground.chain }, { on := 15, ground := Ground.guard }], guard := some (15, true) }) rfl (fun K hK => ?_) AllReadyH.nil
  refine step_call_g rfl 27 _ _ #[.agg #[.int .i64 A.cells, .slice an2 A.next.length cn2, .slice at2 A.turn.length ct2], .agg #[.int .i64 A.cells, .slice an3 A.next.length cn3, .slice at3 A.turn.length ct3]] rfl rfl (enters_of Tryd.func27 (by kernel_rfl) rfl) ((HSAME.out _ g6).mono ?_)
  rintro e u7 ⟨rfl, hb7⟩
  have g7 := below_step g6 hb7
  refine ⟨_, rfl, hK.out _ _ ⟨cell_keep g7 c0, cell_keep g7 c1, cell_keep g7 c2, cell_keep g7 d0, cell_keep g7 d1, cell_keep g7 d2, cell_keep g7 f0, cell_keep g7 f1, cell_keep g7 f2⟩ (fun _ => ?_)⟩
  clear hK K
  (try simp only [Act.put, List.setIfInBounds_toArray, List.set_cons_zero, List.set_cons_succ])
  refine wpAnyH_take (i := 19) (oi := { dst := some 96, op := Op.pick (Operand.tmp 92) (Operand.tmp 95) (Operand.const (Value.bool false)), type := 4, pos := "law.go:44", after := #[{ on := 15, ground := Ground.data }, { on := 18, ground := Ground.data }], guard := none }) (v := ?_) rfl (by kernel_rfl) (by kernel_rfl) (by kernel_rfl) (fun _ _ _ h => h) (Or.inl ⟨by rfl, ?_⟩) (by assumption) ?_
  rotate_left
  · ((intro w hSw; (try dsimp only at hSw); go_simp); try with_reducible rfl)
  (try simp only [Act.put, List.setIfInBounds_toArray, List.set_cons_zero, List.set_cons_succ])
  refine wpAnyH_take (i := 20) (oi := { dst := some 97, op := Op.move (Operand.tmp 96), type := 4, pos := "law.go:44", after := #[{ on := 19, ground := Ground.data }, { on := 18, ground := Ground.chain }], guard := none }) (v := ?_) rfl (by kernel_rfl) (by kernel_rfl) (by kernel_rfl) (fun _ _ _ h => h) (Or.inl ⟨by rfl, ?_⟩) (by assumption) ?_
  rotate_left
  · ((intro w hSw; (try dsimp only at hSw); go_simp); try with_reducible rfl)
  (try simp only [Act.put, List.setIfInBounds_toArray, List.set_cons_zero, List.set_cons_succ])
  refine wpAnyH_take (i := 21) (oi := { dst := some 98, op := Op.move (Operand.tmp 11), type := 37, pos := "law.go:44", after := #[{ on := 20, ground := Ground.guard }], guard := some (20, true) }) (v := ?_) rfl (by kernel_rfl) (by kernel_rfl) (by kernel_rfl) (fun _ _ _ h => h) (Or.inl ⟨by rfl, ?_⟩) (by assumption) ?_
  rotate_left
  · ((intro w hSw; (try dsimp only at hSw); go_simp); try with_reducible rfl)
  (try simp only [Act.put, List.setIfInBounds_toArray, List.set_cons_zero, List.set_cons_succ])
  refine wpAnyH_take (i := 22) (oi := { dst := some 99, op := Op.move (Operand.tmp 13), type := 37, pos := "law.go:44", after := #[{ on := 20, ground := Ground.guard }], guard := some (20, true) }) (v := ?_) rfl (by kernel_rfl) (by kernel_rfl) (by kernel_rfl) (fun _ _ _ h => h) (Or.inl ⟨by rfl, ?_⟩) (by assumption) ?_
  rotate_left
  · ((intro w hSw; (try dsimp only at hSw); go_simp); try with_reducible rfl)
  (try simp only [Act.put, List.setIfInBounds_toArray, List.set_cons_zero, List.set_cons_succ])
  refine wpAnyH_take (i := 23) (oi := { dst := some 100, op := Op.binOp BinOp.eql 37 (Operand.tmp 98) (Operand.tmp 99) 37, type := 4, pos := "law.go:44", after := #[{ on := 21, ground := Ground.data }, { on := 22, ground := Ground.data }, { on := 20, ground := Ground.guard }], guard := some (20, true) }) (v := ?_) rfl (by kernel_rfl) (by kernel_rfl) (by kernel_rfl) (fun _ _ _ h => h) (Or.inl ⟨by rfl, ?_⟩) (by assumption) ?_
  rotate_left
  · ((intro w hSw; (try dsimp only at hSw); go_simp); try with_reducible rfl)
  (try simp only [Act.put, List.setIfInBounds_toArray, List.set_cons_zero, List.set_cons_succ])
  refine wpAnyH_take (i := 24) (oi := { dst := some 101, op := Op.pick (Operand.tmp 97) (Operand.tmp 100) (Operand.const (Value.bool false)), type := 4, pos := "law.go:44", after := #[{ on := 20, ground := Ground.data }, { on := 23, ground := Ground.data }], guard := none }) (v := ?_) rfl (by kernel_rfl) (by kernel_rfl) (by kernel_rfl) (fun _ _ _ h => h) (Or.inl ⟨by rfl, ?_⟩) (by assumption) ?_
  rotate_left
  · ((intro w hSw; (try dsimp only at hSw); go_simp); try with_reducible rfl)
  (try simp only [Act.put, List.setIfInBounds_toArray, List.set_cons_zero, List.set_cons_succ])
  refine wpAnyH_take (i := 25) (oi := { dst := some 4, op := Op.assign (Operand.tmp 101), type := 4, pos := "law.go:44", after := #[{ on := 24, ground := Ground.data }, { on := 20, ground := Ground.chain }, { on := 0, ground := Ground.phase }, { on := 1, ground := Ground.phase }, { on := 2, ground := Ground.phase }, { on := 3, ground := Ground.phase }, { on := 4, ground := Ground.phase }, { on := 5, ground := Ground.phase }, { on := 6, ground := Ground.phase }, { on := 7, ground := Ground.phase }, { on := 8, ground := Ground.phase }, { on := 9, ground := Ground.phase }, { on := 10, ground := Ground.phase }, { on := 11, ground := Ground.phase }, { on := 12, ground := Ground.phase }, { on := 13, ground := Ground.phase }, { on := 14, ground := Ground.phase }, { on := 15, ground := Ground.phase }, { on := 16, ground := Ground.phase }, { on := 17, ground := Ground.phase }, { on := 18, ground := Ground.phase }, { on := 19, ground := Ground.phase }, { on := 20, ground := Ground.phase }, { on := 21, ground := Ground.phase }, { on := 22, ground := Ground.phase }, { on := 23, ground := Ground.phase }, { on := 24, ground := Ground.phase }], guard := none }) (v := ?_) rfl (by kernel_rfl) (by kernel_rfl) (by kernel_rfl) (fun _ _ _ h => h) (Or.inl ⟨by rfl, ?_⟩) (by assumption) ?_
  rotate_left
  · ((intro w hSw; (try dsimp only at hSw); go_simp); try with_reducible rfl)
  (try simp only [Act.put, List.setIfInBounds_toArray, List.set_cons_zero, List.set_cons_succ])
  refine wpAnyH_done (by kernel_rfl) ?_ _
  have bZ := below_step bc g7
  go_wp2
  go_ret
  exact ⟨rfl, bZ⟩
end Go.Proofs.YtcpjkilnbhfpjaaDoor
