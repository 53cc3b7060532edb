/-
  Of the reference: Compare, Same, Lists.
-/
import Derived.Test.YtepbmgbomdekaaaDFind
import Derived.Test.YtepbmgbomdekaaaDRef
namespace Go.Proofs.Ytepbmgbomdekaaa
open Go Go.RowKit Go.Lib Go.Sort
attribute [local irreducible] Go.wpQuiet

theorem rlist_below (l m : List Int) (a a2 : Option Addr) (ct c2 N : Nat) (w : World) (hl : l.length ≤ maxLen) (hI : Ints N w a l) (hI2 : Ints N w a2 m) :
    Calls Try.prog 38 #[.slice a l.length ct, .slice a2 m.length c2] w fun e w' => e = .returned (.int .i64 (cmpL l m)) ∧ Below w.heap.size w w' := by
  refine (rlist_any l m a a2 ct c2 N w hl hI hI2).mono ?_
  rintro e w' ⟨rfl, q, rfl⟩
  exact ⟨rfl, below_drewN_ (Below.refl _ _) q⟩
theorem rnum_below (x y : Int) (w : World) : Calls Try.prog 39 #[.int .i64 x, .int .i64 y] w fun e w' => e = .returned (.int .i64 (cmpI x y)) ∧ Below w.heap.size w w' := by
  refine (rnum_any x y w).mono ?_
  rintro e w' ⟨rfl, rfl⟩
  exact ⟨rfl, Below.refl _ _⟩

set_option maxRecDepth 100000 in
set_option maxHeartbeats 4000000 in
theorem rcompare_any (x y : PosA) (N : Nat) (w : World) (hx : AOk N w x) (hy : AOk N w y) (hN : N ≤ w.heap.size) :
    Calls Try.prog 20 #[x.val, y.val] w fun e w' => e = .returned (.int .i64 (cmpP x.p y.p)) ∧ Below w.heap.size w w' := by
  have hfx := hx.fit
  have C0 := Lib.hid (fun W (h : Below w.heap.size w W) => rlist_below x.p.cells y.p.cells x.a y.a x.c y.c N W hfx.cells (hx.lies.up hN h).cells (hy.lies.up hN h).cells)
  have C1 := Lib.hid (fun W (h : Below w.heap.size w W) => rlist_below x.p.h0 y.p.h0 x.a0 y.a0 x.c0 y.c0 N W hfx.h0 (hx.lies.up hN h).h0 (hy.lies.up hN h).h0)
  have C2 := Lib.hid (fun W (h : Below w.heap.size w W) => rlist_below x.p.h1 y.p.h1 x.a1 y.a1 x.c1 y.c1 N W hfx.h1 (hx.lies.up hN h).h1 (hy.lies.up hN h).h1)
  have C3 := Lib.hid (fun W => rnum_below x.p.rights y.p.rights W)
  have C4 := Lib.hid (fun W => rnum_below x.p.side y.p.side W)
  have HV := Lib.hid (show cmpP x.p y.p = orL [cmpL x.p.cells y.p.cells, cmpL x.p.h0 y.p.h0, cmpL x.p.h1 y.p.h1, cmpI x.p.rights y.p.rights, cmpI x.p.side y.p.side] by
    unfold cmpP orL orL orL orL orL orL
    congr 4
    unfold orI; split <;> (first | assumption | rfl))
  clear hx hy hfx
  obtain ⟨R, hR⟩ : ∃ R, cmpP x.p y.p = R := ⟨_, rfl⟩
  rw [hR] at HV ⊢
  clear hR
  unfold PosA.val PosV
  go_enter Try.func20, Try.ntmps20
  go_upto_region 1 with (fail)
  have hbA : Below w.heap.size w ((w.alloc (.cells x.enc.toArray 27)).alloc (.cells y.enc.toArray 27)) := below_alloc (below_alloc (Below.refl _ _) _) _
  have hbx : ((w.alloc (.cells x.enc.toArray 27)).alloc (.cells y.enc.toArray 27)).heap[w.heap.size]? = some (.cells x.enc.toArray 27 (0, 0)) := (hp_old _ _ _ (by simp)).trans (World.alloc_heap_new _ _)
  have hby : ((w.alloc (.cells x.enc.toArray 27)).alloc (.cells y.enc.toArray 27)).heap[w.heap.size + 1]? = some (.cells y.enc.toArray 27 (0, 0)) := by
    have := World.alloc_heap_new (w.alloc (.cells x.enc.toArray 27)) (.cells y.enc.toArray 27)
    simpa using this
  have hT : TwoB w w.heap.size 0 (w.heap.size + 1) 0 x y ((w.alloc (.cells x.enc.toArray 27)).alloc (.cells y.enc.toArray 27)) := ⟨hbA, bx_cell hbx 0 rfl, bx_cell hbx 1 rfl, bx_cell hbx 2 rfl, bx_cell hbx 3 rfl, bx_cell hbx 4 rfl, bx_cell hby 0 rfl, bx_cell hby 1 rfl, bx_cell hby 2 rfl, bx_cell hby 3 rfl, bx_cell hby 4 rfl⟩
  have l1 := bx_lt hbx
  have l2 := bx_lt hby
  unfold PosA.enc at hT l1 l2
  generalize (w.alloc (.cells [.slice x.a x.p.cells.length x.c, .slice x.a0 x.p.h0.length x.c0, .slice x.a1 x.p.h1.length x.c1, .int .i64 x.p.rights, .int .i64 x.p.side].toArray 27)).alloc (.cells [.slice y.a y.p.cells.length y.c, .slice y.a0 y.p.h0.length y.c0, .slice y.a1 y.p.h1.length y.c1, .int .i64 y.p.rights, .int .i64 y.p.side].toArray 27) = w0 at *
  clear hbA hbx hby
  refine wp_region_quiet_tail 29 (TwoB w w.heap.size 0 (w.heap.size + 1) 0 x y) (hT.up (Below.refl _ _).drew) (by kernel_rfl) (by kernel_rfl) ?_
  simp only [List.take_succ_cons, List.take_zero, List.drop_succ_cons, List.drop_zero]
  generalize cmpL x.p.cells y.p.cells = v0 at *
  generalize cmpL x.p.h0 y.p.h0 = v1 at *
  generalize cmpL x.p.h1 y.p.h1 = v2 at *
  generalize cmpI x.p.rights y.p.rights = v3 at *
  generalize cmpI x.p.side y.p.side = v4 at *
  iterate 4
    refine wpQuiet_val (v := ?_) (by rfl) ?_ ?_
    rotate_left
    · ((intro W hW; (try cases hW); go_simp); try with_reducible rfl)
    (try simp only [Act.put, List.setIfInBounds_toArray, List.set_cons_zero, List.set_cons_succ])
  refine wpQuiet_val (v := .int .i64 v0) (by rfl) (fun W hW => ?_) ?_
  · go_simp
    exact (C0.out W hW.b).mono fun e w' ⟨he, hb⟩ => ⟨he, hW.up hb⟩
  (try simp only [Act.put, List.setIfInBounds_toArray, List.set_cons_zero, List.set_cons_succ])
  iterate 6
    refine wpQuiet_val (v := ?_) (by rfl) ?_ ?_
    rotate_left
    · ((intro W hW; (try cases hW); go_simp); try with_reducible rfl)
    (try simp only [Act.put, List.setIfInBounds_toArray, List.set_cons_zero, List.set_cons_succ])
  refine wpQuiet_val (v := .int .i64 v1) (by rfl) (fun W hW => ?_) ?_
  · go_simp
    exact (C1.out W hW.b).mono fun e w' ⟨he, hb⟩ => ⟨he, hW.up hb⟩
  (try simp only [Act.put, List.setIfInBounds_toArray, List.set_cons_zero, List.set_cons_succ])
  iterate 6
    refine wpQuiet_val (v := ?_) (by rfl) ?_ ?_
    rotate_left
    · ((intro W hW; (try cases hW); go_simp); try with_reducible rfl)
    (try simp only [Act.put, List.setIfInBounds_toArray, List.set_cons_zero, List.set_cons_succ])
  refine wpQuiet_val (v := .int .i64 v2) (by rfl) (fun W hW => ?_) ?_
  · go_simp
    exact (C2.out W hW.b).mono fun e w' ⟨he, hb⟩ => ⟨he, hW.up hb⟩
  (try simp only [Act.put, List.setIfInBounds_toArray, List.set_cons_zero, List.set_cons_succ])
  iterate 4
    refine wpQuiet_val (v := ?_) (by rfl) ?_ ?_
    rotate_left
    · ((intro W hW; (try cases hW); go_simp); try with_reducible rfl)
    (try simp only [Act.put, List.setIfInBounds_toArray, List.set_cons_zero, List.set_cons_succ])
  refine wpQuiet_val (v := .int .i64 v3) (by rfl) (fun W hW => ?_) ?_
  · go_simp
    exact (C3.out W).mono fun e w' ⟨he, hb⟩ => ⟨he, hW.up hb⟩
  (try simp only [Act.put, List.setIfInBounds_toArray, List.set_cons_zero, List.set_cons_succ])
  iterate 4
    refine wpQuiet_val (v := ?_) (by rfl) ?_ ?_
    rotate_left
    · ((intro W hW; (try cases hW); go_simp); try with_reducible rfl)
    (try simp only [Act.put, List.setIfInBounds_toArray, List.set_cons_zero, List.set_cons_succ])
  refine wpQuiet_val (v := .int .i64 v4) (by rfl) (fun W hW => ?_) ?_
  · go_simp
    exact (C4.out W).mono fun e w' ⟨he, hb⟩ => ⟨he, hW.up hb⟩
  (try simp only [Act.put, List.setIfInBounds_toArray, List.set_cons_zero, List.set_cons_succ])
  refine wpQuiet_nil (fun W hW => ?_)
  have hbW := hW.b
  have hI5 : Ints (W.alloc (.cells #[.int .i64 v0, .int .i64 v1, .int .i64 v2, .int .i64 v3, .int .i64 v4] 3)).heap.size (W.alloc (.cells #[.int .i64 v0, .int .i64 v1, .int .i64 v2, .int .i64 v3, .int .i64 v4] 3)) (some ⟨W.heap.size, 0, none⟩) [v0, v1, v2, v3, v4] := .inr ⟨W.heap.size, 0, rfl, by rw [World.size_alloc]; omega, fun j hj => by
    have : j = 0 ∨ j = 1 ∨ j = 2 ∨ j = 3 ∨ j = 4 := by simp at hj; omega
    rcases this with rfl | rfl | rfl | rfl | rfl <;> exact cell_new_at _ _ _ _ _ _ rfl rfl⟩
  have hb5 : Below w.heap.size w (W.alloc (.cells #[.int .i64 v0, .int .i64 v1, .int .i64 v2, .int .i64 v3, .int .i64 v4] 3)) := below_alloc hbW _
  have HB5 := Lib.hid hb5
  clear hW hT C0 C1 C2 C3 C4 hbW hb5 l1 l2
  obtain ⟨B, hB⟩ : ∃ B, B = W.heap.size := ⟨_, rfl⟩
  go_wp2
  rw [← hB] at hI5 ⊢
  generalize W.alloc (.cells #[.int .i64 v0, .int .i64 v1, .int .i64 v2, .int .i64 v3, .int .i64 v4] 3) = W5 at *
  generalize hl5 : [v0, v1, v2, v3, v4] = l at *
  have hlen : l.length = 5 := by rw [← hl5]; rfl
  clear hl5 hB
  go_loopw [6] (fun i wr => wr = W5 ∧ ∃ k : Nat, k ≤ 5 ∧ i = .int .i64 k ∧ Hid (orL (l.drop k) = R)) (fun i _ => 5 - (RowKit.intOf i).toNat)
  case atStart => exact ⟨rfl, 0, Nat.zero_le _, rfl, Lib.hid HV.out.symm⟩
  case round =>
    obtain ⟨rfl, k, hk, rfl, HK⟩ := hrel
    by_cases hlt : k < 5
    · have hlt' : k < l.length := by omega
      obtain ⟨b, off, hab, hbN, hc⟩ := hI5.at_ hlt'
      cases hab
      have hst : orL (l.drop k) = orI (l[k]?.getD 0) (orL (l.drop (k + 1))) := by rw [List.drop_eq_getElem_cons hlt', List.getElem?_eq_getElem hlt']; rfl
      rw [HK.out] at hst
      rw [Nat.zero_add] at hc
      have t5 : decide ((k : Int) < 5) = true := by simp; omega
      generalize l[k]?.getD 0 = z at hc hst
      by_cases h0 : z = 0
      · have HS := Lib.hid (show orL (l.drop (k + 1)) = R by rw [hst]; unfold orI; rw [if_pos h0])
        subst h0
        clear hst hI5
        go_wp2
        go_roundw
        case rel => exact ⟨trivial, k + 1, by omega, by simp, HS⟩
        case measure => simp [RowKit.intOf]; omega
      · have HS := Lib.hid (show R = z by rw [hst]; unfold orI; rw [if_neg h0])
        have t0 : (z != 0) = true := by simpa using h0
        have t1 : decide (z = 0) = false := by simpa using h0
        clear hst h0 hI5
        go_wp2
        go_ret
        exact ⟨by rw [HS.out]; rfl, HB5.out⟩
    · obtain rfl : k = 5 := by omega
      have HS := Lib.hid (show R = 0 by rw [← HK.out, List.drop_eq_nil_of_le (by omega)]; rfl)
      clear hI5
      go_wp2
      go_ret
      exact ⟨by rw [HS.out]; rfl, HB5.out⟩
end Go.Proofs.Ytepbmgbomdekaaa
