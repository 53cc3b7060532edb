/-
  Compare of the package pos.
-/
import Derived.Test.YtphhkfelpckilaaGreatDoorDCmp
import Derived.StillTailTactics
import Derived.Sort.Grow
namespace Go.Proofs.YtphhkfelpckilaaGreatDoor
open Go Go.RowKit Go.Sort

def orL : List Int → Int
  | [] => 0
  | x :: l => orI x (orL l)
set_option maxRecDepth 100000 in
set_option maxHeartbeats 1000000 in
theorem or_any (l : List Int) (a : Option Addr) (ct N : Nat) (w : World) (hl : l.length ≤ maxLen) (hI : Ints N w a l) :
    Calls Tryz.prog 45 #[.slice a l.length ct] w fun e w' => e = .returned (.int .i64 (orL l)) ∧ w' = w := by
  unfold maxLen at hl
  obtain ⟨R, hR⟩ : ∃ R, orL l = R := ⟨_, rfl⟩
  rw [hR]
  have HR := Lib.hid hR
  clear hR
  go_enter Tryz.func45, Tryz.ntmps45
  go_wp2
  go_loop [8] (fun i => ∃ k : Nat, k ≤ l.length ∧ i = .int .i64 k ∧ Hid (orL (l.drop k) = R)) (fun i => l.length - (intOf i).toNat)
  case atStart => exact ⟨0, Nat.zero_le _, rfl, HR⟩
  case round =>
    obtain ⟨k, hk, rfl, HK⟩ := hrel
    by_cases hlt : k < l.length
    · obtain ⟨b, off, hab, hbN, hc⟩ := hI.at_ hlt
      subst hab
      have hst : orL (l.drop k) = orI (l[k]?.getD 0) (orL (l.drop (k + 1))) := by rw [List.drop_eq_getElem_cons hlt, List.getElem?_eq_getElem hlt]; rfl
      rw [HK.out] at hst
      generalize l[k]?.getD 0 = x at hc hst
      by_cases h0 : x = 0
      · have HS := Lib.hid (show orL (l.drop (k + 1)) = R by rw [hst]; unfold orI; rw [if_pos h0])
        subst h0
        clear hst hI
        go_wp2
        go_round
        case rel => exact ⟨k + 1, by omega, by simp, HS⟩
        case measure => simp [intOf]; omega
      · have HS := Lib.hid (show R = x by rw [hst]; unfold orI; rw [if_neg h0])
        have t0 : (x != 0) = true := by simpa using h0
        have t1 : decide (x = 0) = false := by simpa using h0
        clear hst h0 hI
        go_wp2
        go_ret
        exact ⟨by rw [HS.out]; rfl, rfl⟩
    · obtain rfl : k = l.length := by omega
      have HS := Lib.hid (show R = 0 by rw [← HK.out, List.drop_eq_nil_of_le (Nat.le_refl _)]; rfl)
      clear hI
      go_wp2
      go_ret
      exact ⟨by rw [HS.out]; rfl, rfl⟩

/-- A position as a value: its lists lie at these places. -/
def PosV (a a0 a1 : Option Addr) (c c0 c1 : Nat) (p : PosS) : Value := .agg #[.slice a p.cells.length c, .slice a0 p.h0.length c0, .slice a1 p.h1.length c1, .int .i64 p.rights, .int .i64 p.side]
structure PosIn (n : Nat) (W : World) (a a0 a1 : Option Addr) (p : PosS) : Prop where
  cells : Ints n W a p.cells
  h0 : Ints n W a0 p.h0
  h1 : Ints n W a1 p.h1
structure PosFit (p : PosS) : Prop where
  cells : p.cells.length ≤ maxLen
  h0 : p.h0.length ≤ maxLen
  h1 : p.h1.length ≤ maxLen
theorem PosIn.up {N : Nat} {w w1 : World} {a a0 a1 : Option Addr} {p : PosS} (h : PosIn N w a a0 a1 p) (hN : N ≤ w.heap.size) (hb : Below w.heap.size w w1) : PosIn N w1 a a0 a1 p :=
  ⟨h.cells.up hN hb, h.h0.up hN hb, h.h1.up hN hb⟩

set_option maxRecDepth 100000 in
set_option maxHeartbeats 2000000 in
theorem compare_grown (p q : PosS) (a a0 a1 b b0 b1 : Option Addr) (c c0 c1 d d0 d1 N : Nat) (w : World) (hp : PosFit p) (hN : N ≤ w.heap.size) (hP : PosIn N w a a0 a1 p) (hQ : PosIn N w b b0 b1 q) :
    Calls Tryz.prog 18 #[PosV a a0 a1 c c0 c1 p, PosV b b0 b1 d d0 d1 q] w fun e w' => e = .returned (.int .i64 (cmpP p q)) ∧ ∃ k os, w' = grow (w.drewN k) os := by
  unfold PosV
  go_enter Tryz.func18, Tryz.ntmps18
  go_wp2_with fail
  have hb0 : Below w.heap.size w ((w.alloc (.cells #[.slice a p.cells.length c, .slice a0 p.h0.length c0, .slice a1 p.h1.length c1, .int .i64 p.rights, .int .i64 p.side] 32)).alloc (.cells #[.slice b q.cells.length d, .slice b0 q.h0.length d0, .slice b1 q.h1.length d1, .int .i64 q.rights, .int .i64 q.side] 32)) := below_alloc (below_alloc (Below.refl _ _) _) _
  have hg0 : ∃ os, ((w.alloc (.cells #[.slice a p.cells.length c, .slice a0 p.h0.length c0, .slice a1 p.h1.length c1, .int .i64 p.rights, .int .i64 p.side] 32)).alloc (.cells #[.slice b q.cells.length d, .slice b0 q.h0.length d0, .slice b1 q.h1.length d1, .int .i64 q.rights, .int .i64 q.side] 32)) = grow w os := ⟨_, by rw [alloc_eq_grow, alloc_eq_grow, grow_grow]⟩
  have x0 : ∀ j v, (#[.slice a p.cells.length c, .slice a0 p.h0.length c0, .slice a1 p.h1.length c1, .int .i64 p.rights, .int .i64 p.side] : Array Value)[j]? = some v → ((w.alloc (.cells #[.slice a p.cells.length c, .slice a0 p.h0.length c0, .slice a1 p.h1.length c1, .int .i64 p.rights, .int .i64 p.side] 32)).alloc (.cells #[.slice b q.cells.length d, .slice b0 q.h0.length d0, .slice b1 q.h1.length d1, .int .i64 q.rights, .int .i64 q.side] 32)).cell? ⟨w.heap.size, j, none⟩ = some v := fun j v h => cell_alloc_keep (cell_new_at _ _ _ _ _ _ rfl h) _
  have y0 : ∀ j v, (#[.slice b q.cells.length d, .slice b0 q.h0.length d0, .slice b1 q.h1.length d1, .int .i64 q.rights, .int .i64 q.side] : Array Value)[j]? = some v → ((w.alloc (.cells #[.slice a p.cells.length c, .slice a0 p.h0.length c0, .slice a1 p.h1.length c1, .int .i64 p.rights, .int .i64 p.side] 32)).alloc (.cells #[.slice b q.cells.length d, .slice b0 q.h0.length d0, .slice b1 q.h1.length d1, .int .i64 q.rights, .int .i64 q.side] 32)).cell? ⟨w.heap.size + 1, j, none⟩ = some v := fun j v h => cell_new_at _ _ _ _ _ _ (by simp) h
  have p0 := x0 0 _ rfl
  have p1 := x0 1 _ rfl
  have p2 := x0 2 _ rfl
  have p3 := x0 3 _ rfl
  have p4 := x0 4 _ rfl
  have q0 := y0 0 _ rfl
  have q1 := y0 1 _ rfl
  have q2 := y0 2 _ rfl
  have q3 := y0 3 _ rfl
  have q4 := y0 4 _ rfl
  clear x0 y0
  generalize (w.alloc (.cells #[.slice a p.cells.length c, .slice a0 p.h0.length c0, .slice a1 p.h1.length c1, .int .i64 p.rights, .int .i64 p.side] 32)).alloc (.cells #[.slice b q.cells.length d, .slice b0 q.h0.length d0, .slice b1 q.h1.length d1, .int .i64 q.rights, .int .i64 q.side] 32) = w0 at *
  obtain ⟨os0, hg0⟩ := hg0
  have HG0 := Lib.hid (show w0.drew = grow (w.drewN 1) os0 by rw [hg0]; rfl)
  clear hg0
  have hd : Below w0.heap.size w0 w0.drew := (Below.refl _ _).drew
  have hPd := hP.up hN (below_step hb0 hd)
  have hQd := hQ.up hN (below_step hb0 hd)
  have C0 := Lib.hid (scmp_any p.cells q.cells a b c d N w0.drew hp.cells hPd.cells hQd.cells)
  have C1 := Lib.hid (scmp_any p.h0 q.h0 a0 b0 c0 d0 N w0.drew hp.h0 hPd.h0 hQd.h0)
  have C2 := Lib.hid (scmp_any p.h1 q.h1 a1 b1 c1 d1 N w0.drew hp.h1 hPd.h1 hQd.h1)
  have C3 := Lib.hid (cmp_any p.rights q.rights w0.drew)
  have C4 := Lib.hid (cmp_any p.side q.side w0.drew)
  have HV := Lib.hid (show cmpP p q = orL [cmpL p.cells q.cells, cmpL p.h0 q.h0, cmpL p.h1 q.h1, cmpI p.rights q.rights, cmpI p.side q.side] by
    unfold cmpP orL orL orL orL orL orL
    congr 4
    unfold orI; split <;> (first | assumption | rfl))
  generalize cmpL p.cells q.cells = v0 at *
  generalize cmpL p.h0 q.h0 = v1 at *
  generalize cmpL p.h1 q.h1 = v2 at *
  generalize cmpI p.rights q.rights = v3 at *
  generalize cmpI p.side q.side = v4 at *
  have hl0 := World.block_lt_of_cell? _ _ p0
  have hl1 := World.block_lt_of_cell? _ _ q0
  clear hPd hQd hP hQ hp
  go_still_tail 29, (by kernel_rfl)
  still_call C0.out
  repeat still_step
  still_call C1.out
  repeat still_step
  still_call C2.out
  repeat still_step
  still_call C3.out
  repeat still_step
  still_call C4.out
  repeat still_step
  refine wpStill_nil ?_
  change wpList _ _ _ _ _ w0.drew
  generalize w0.drew = wd at *
  have hI5 : Ints (wd.alloc (.cells #[.int .i64 v0, .int .i64 v1, .int .i64 v2, .int .i64 v3, .int .i64 v4] 3)).heap.size (wd.alloc (.cells #[.int .i64 v0, .int .i64 v1, .int .i64 v2, .int .i64 v3, .int .i64 v4] 3)) (some ⟨wd.heap.size, 0, none⟩) [v0, v1, v2, v3, v4] := .inr ⟨wd.heap.size, 0, rfl, by rw [World.size_alloc]; omega, fun j hj => by
    have : j = 0 ∨ j = 1 ∨ j = 2 ∨ j = 3 ∨ j = 4 := by simp at hj; omega
    rcases this with rfl | rfl | rfl | rfl | rfl <;> exact cell_new_at _ _ _ _ _ _ rfl rfl⟩
  have HOR := Lib.hid (or_any [v0, v1, v2, v3, v4] (some ⟨wd.heap.size, 0, none⟩) 5 _ _ (by unfold maxLen; simp) hI5)
  have hb5 := Lib.hid (show ∃ k os, (wd.alloc (.cells #[.int .i64 v0, .int .i64 v1, .int .i64 v2, .int .i64 v3, .int .i64 v4] 3)) = grow (w.drewN k) os from ⟨1, _, by rw [HG0.out, alloc_eq_grow, grow_grow]⟩)
  clear hI5 C0 C1 C2 C3 C4 p0 p1 p2 p3 p4 q0 q1 q2 q3 q4
  go_wp2_with (go_at_call 45; refine HOR.out.mono ?_; rintro e w' ⟨rfl, rfl⟩)
  go_ret
  exact ⟨by rw [HV.out]; rfl, hb5.out⟩
theorem below_grown_ (w : World) (k : Nat) (os : Array Obj) : Below w.heap.size w (grow (w.drewN k) os) :=
  ⟨rfl, rfl, rfl, by simp, fun j hj => heap_grow_old (w.drewN k) os hj⟩
theorem compare_any (p q : PosS) (a a0 a1 b b0 b1 : Option Addr) (c c0 c1 d d0 d1 N : Nat) (w : World) (hp : PosFit p) (hN : N ≤ w.heap.size) (hP : PosIn N w a a0 a1 p) (hQ : PosIn N w b b0 b1 q) :
    Calls Tryz.prog 18 #[PosV a a0 a1 c c0 c1 p, PosV b b0 b1 d d0 d1 q] w fun e w' => e = .returned (.int .i64 (cmpP p q)) ∧ Below w.heap.size w w' := by
  refine (compare_grown p q a a0 a1 b b0 b1 c c0 c1 d d0 d1 N w hp hN hP hQ).mono ?_
  rintro e w' ⟨rfl, k, os, rfl⟩
  exact ⟨rfl, below_grown_ w k os⟩
end Go.Proofs.YtphhkfelpckilaaGreatDoor
