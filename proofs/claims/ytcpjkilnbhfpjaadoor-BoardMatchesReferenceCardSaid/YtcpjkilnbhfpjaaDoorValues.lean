/-
  The iterator over the numbers of a slice, and the two functions that give the neighbors of a cell.
-/
import Derived.Test.YtcpjkilnbhfpjaaDoorDistW
import Derived.Test.YtcpjkilnbhfpjaaDoorRows2
namespace Go.Proofs.YtcpjkilnbhfpjaaDoor
open Go Go.RowKit Go.Shelf

attribute [local go_sem] Oper.semAt_some

theorem OwnInts.places {h : Nat} {W : World} {v : Value} {l : List Int} (hv : OwnInts h W v l) : ∃ o cap, v = .slice o l.length cap ∧ ∀ j, j < l.length → ∃ g, o = some ⟨g, 0, none⟩ ∧ some g = v.ownBlock ∧ W.cell? ⟨g, j, none⟩ = some (.int .i64 (l[j]?.getD 0)) := by
  rcases hv.form with ⟨rfl, h0⟩ | ⟨G, cap, rfl, _⟩
  · have : l = [] := by simpa using h0
    subst this
    exact ⟨none, 0, rfl, fun j hj => by simp at hj⟩
  · exact ⟨_, cap, rfl, fun j hj => ⟨G, rfl, rfl, (hv.cellAt hj).1⟩⟩

set_option maxHeartbeats 400000 in
theorem values_any (o : Option Addr) (k cap : Nat) (w : World) :
    Calls Tryd.prog 60 #[.slice o k cap] w fun e w' => e = .returned (.func (.func 75) #[] #[.pointer (some ⟨w.heap.size, 0, none⟩)]) ∧ w.alloc (.cells #[.slice o k cap] 29) = w' := by
  go_enter Tryd.func60, Tryd.ntmps60
  go_wp2
  go_ret
  exact ⟨rfl, rfl⟩

set_option maxRecDepth 100000 in
set_option maxHeartbeats 1000000 in
theorem values1_in (n : Nat) (R : Int → Prop) (zs : List Int) (hR : ∀ x ∈ zs, R x) (hz : zs.length ≤ 2000) (v : Value) (h l Bs : Nat) (J Jx : List Int → World → Prop) (W : World)
    (hY : ∀ pre x W, R x → J pre W → pre.length < zs.length → YieldAt Fence.wide n Tryd.prog l #[.int .i64 x] W fun e W' =>
      (e = .returned (.bool true) ∧ J (pre ++ [x]) W' ∧ Keep (fun k => k = Bs ∨ some k = v.ownBlock) W W') ∨ (e = .returned (.bool false) ∧ Jx (pre ++ [x]) W'))
    (hb : W.cell? ⟨Bs, 0, none⟩ = some v) (hv : OwnInts h W v zs) (h0 : J [] W) :
    CallsIn Fence.wide (n + 1) Tryd.prog 75 #[.func (.yield l) #[] #[], .pointer (some ⟨Bs, 0, none⟩)] W fun e W' => (∃ v, e = .returned v) ∧
      ((∃ ys, ys = zs ∧ J ys W') ∨ (∃ pre, pre <+: zs ∧ Jx pre W')) := by
  obtain ⟨o, cap, hvo, hpl⟩ := hv.places
  rw [hvo] at hb
  refine callsIn_of_wp Tryd.func75 rfl trivial ?_ rfl
  simp only [Tryd.ntmps75, List.size_toArray, List.length_cons, List.length_nil, Nat.reduceAdd, Nat.reduceSub, Array.replicate_succ, Array.replicate_zero, List.push_toArray, List.append_toArray, List.nil_append, List.cons_append]
  gi_wp2
  gi_loopw [7] (fun i wr => ∃ k : Nat, k ≤ zs.length ∧ i = .int .i64 k ∧ J (zs.take k) wr ∧ Keep (fun k => k = Bs ∨ some k = v.ownBlock) W wr)
    (fun i _ => zs.length - (intOf i).toNat)
  case atStart => exact ⟨0, Nat.zero_le _, rfl, h0, Keep.refl _ _⟩
  case round =>
    obtain ⟨k, hk, rfl, hJs, hnx⟩ := hrel
    by_cases hlt : k < zs.length
    · obtain ⟨g, hog, hgv, hc⟩ := hpl k hlt
      subst hog
      have hc' := (hnx.cell (p := ⟨g, k, none⟩) (.inr hgv)).trans hc
      obtain ⟨x, hx⟩ : ∃ x, zs[k]? = some x := ⟨zs[k], by simp [hlt]⟩
      rw [hx, Option.getD_some] at hc'
      obtain ⟨fn, tmps, assign, body, hy, hR'⟩ := hY _ x wr (hR x (List.mem_of_getElem? hx)) hJs (by simp; omega)
      have hpre : zs.take k ++ [x] = zs.take (k + 1) := by rw [List.take_add_one, hx]; rfl
      gi_wp2
      refine hR'.mono ?_
      rintro e W3 (⟨rfl, hJ3, hk3⟩ | ⟨rfl, hJx3⟩)
      · gi_wp2
        go_roundw
        case rel => exact ⟨k + 1, by omega, by simp, by rw [← hpre]; exact hJ3, hnx.trans hk3⟩
        case measure => simp [intOf]; omega
      · gi_wp2
        refine bodyPost_ret (results_none rfl _ _ _) rfl ?_
        exact ⟨⟨_, rfl⟩, .inr ⟨_, by rw [hpre]; exact List.take_prefix _ _, hJx3⟩⟩
    · obtain rfl : k = zs.length := by omega
      gi_wp2
      go_end0
      exact ⟨⟨_, rfl⟩, .inl ⟨_, rfl, by simpa using hJs⟩⟩

set_option maxRecDepth 100000 in
set_option maxHeartbeats 1000000 in
/-- The rows as neighbors: what joined's function gives. -/
theorem joined1_onward (n h B3 G cap M : Nat) (R : Value → Prop) (rows : List (List Int)) (vs : List Value) (w : World) (hM : M ≤ 2000) (hb : Boxed w B3 28 (.slice (some ⟨G, 0, none⟩) n cap)) (hr : OwnRows h G n R rows vs w)
    (hin : ∀ r ∈ rows, r.length ≤ M ∧ ∀ x ∈ r, 0 ≤ x ∧ x < (n : Int)) :
    Onward n 59 #[.pointer (some ⟨B3, 0, none⟩)] (fun c => rows[c.toNat]?.getD []) (fun k => k = B3 ∨ k = G ∨ ∃ v ∈ vs, some k = v.ownBlock) M w := by
  intro W c hc0 hcn hK
  obtain ⟨c, rfl⟩ := Int.eq_ofNat_of_zero_le hc0
  have hcn' : c < n := by omega
  obtain ⟨v, hv, hcv, _⟩ := hr.cell hcn'
  have k1 := (hK.cell (p := ⟨B3, 0, none⟩) (.inl rfl)).trans hb.cell
  have k2 := (hK.cell (p := ⟨G, c, none⟩) (.inr (.inl rfl))).trans hcv
  have hvm := List.mem_of_getElem? hv
  have hown : OwnInts h w v (rows[c]?.getD []) := hr.own c v hv
  have hown' : OwnInts h W v (rows[c]?.getD []) := by
    rcases hown.2 with ⟨rfl, h0⟩ | ⟨g', cap', cur, rfl, hg', hc', r⟩
    · exact ⟨hown.1, .inl ⟨rfl, h0⟩⟩
    · exact ⟨hown.1, .inr ⟨g', cap', cur, rfl, hg', (hK.2 g' (.inr (.inr ⟨_, hvm, rfl⟩))).trans hc', r⟩⟩
  obtain ⟨o, cap2, hvo, _⟩ := hown'.places
  have hlen : (rows[c]?.getD []).length ≤ M ∧ ∀ x ∈ rows[c]?.getD [], 0 ≤ x ∧ x < (n : Int) := by
    have hl := hr.rlen
    obtain ⟨r, hrr⟩ : ∃ r, rows[c]? = some r := ⟨rows[c], by simp [hl, hcn']⟩
    rw [hrr]; exact hin r (List.mem_of_getElem? hrr)
  rw [hvo] at k2
  go_enter Tryd.func59, Tryd.ntmps59
  go_wp2_with (go_at_call 60; refine (values_any _ _ _ _).mono ?_; rintro e w' ⟨rfl, rfl⟩)
  go_ret
  refine ⟨_, _, rfl, enters_of Tryd.func75 (by kernel_rfl) rfl, (Below.refl _ _).alloc (Nat.le_refl _) _, fun k l J Jx X hX hJ hJx hY h0 => ?_⟩
  have hbX : X.cell? ⟨W.heap.size, 0, none⟩ = some v := by
    rw [hvo]; exact cell_keep hX (cell_new_at _ _ _ _ _ _ rfl rfl)
  have hownX : OwnInts h X v (rows[c]?.getD []) := by
    have h1 : OwnInts h (W.alloc (.cells #[.slice o (rows[c]?.getD []).length cap2] 29)) v (rows[c]?.getD []) := World.ownsRow.alloc hown' _
    exact h1.alters (S := fun _ => False) (Alters.of_below hX) (fun k hk => hk.elim)
  exact values1_in k _ _ hlen.2 (by omega) v h l W.heap.size J Jx X (fun pre x W1 hx hj hl => by
    obtain ⟨fn, tmps, assign, body, h1, h2⟩ := hY pre x W1 hx hj (by omega)
    refine ⟨fn, tmps, assign, body, h1, h2.mono ?_⟩
    rintro e W' (⟨h3, h4, h5⟩ | h3)
    · exact .inl ⟨h3, h4, h5.mono (fun k hk => by
        rcases hk with rfl | hk
        · right; simp
        · left; exact .inr (.inr ⟨_, hvm, hk⟩))⟩
    · exact .inr h3) hbX hownX h0

set_option maxRecDepth 100000 in
set_option maxHeartbeats 1000000 in
/-- The steps as neighbors: what ahead's function gives. -/
theorem ahead1_onward (B : Brd) (hB : B.Ok) (n : Nat) (hn : B.cells = n) (an at_ : Option Addr) (cn ct : Nat) (Bb N : Nat) (w : World) (hNw : N ≤ w.heap.size)
    (hb0 : w.cell? ⟨Bb, 0, none⟩ = some (.int .i64 B.cells)) (hb1 : w.cell? ⟨Bb, 1, none⟩ = some (.slice an B.next.length cn)) (hb2 : w.cell? ⟨Bb, 2, none⟩ = some (.slice at_ B.turn.length ct)) (hBb : Bb < w.heap.size) (hH : Held N w an at_ B) :
    Onward n 57 #[.pointer (some ⟨Bb, 0, none⟩)] (stepsS B) (· < w.heap.size) B.next.length w := by
  intro W c hc0 hcn hK
  have k0 := (hK.cell (p := ⟨Bb, 0, none⟩) hBb).trans hb0
  have k1 := (hK.cell (p := ⟨Bb, 1, none⟩) hBb).trans hb1
  have k2 := (hK.cell (p := ⟨Bb, 2, none⟩) hBb).trans hb2
  have hHW := hH.keep hK (fun k hk => by show k < _; omega)
  have hsz := hK.1
  have HN := Lib.hid hn
  clear hn
  go_enter Tryd.func57, Tryd.ntmps57
  go_wp2_with (go_at_call 37; refine (steps_any _ _ _ _ _).mono ?_; rintro e w' ⟨rfl, rfl⟩)
  go_ret
  have hbl : Below W.heap.size W ((W.alloc (.cells #[.int .i64 B.cells, .slice an B.next.length cn, .slice at_ B.turn.length ct] 31)).alloc (.cells #[.int .i64 c] 3)) := (by (repeat (first | exact Below.refl _ _ | assumption | refine below_alloc ?_ _ | refine Below.drew ?_ | refine below_drewN_ ?_ _ | refine below_step ?_ (by assumption))))
  refine ⟨_, _, rfl, enters_of Tryd.func54 (by kernel_rfl) rfl, hbl, fun k => ?_⟩
  rw [← HN.out]
  refine (steps_stopsInt k B hB an at_ cn ct c W.heap.size (W.heap.size + 1) N _ (by simp; omega) (by simp; omega) (by simp) ?_ ?_ ?_ ?_ (hHW.up (by omega) hbl)).mono ?_ (Nat.le_refl _)
  · exact cell_alloc_keep (cell_new_at _ _ _ _ _ _ (by simp) rfl) _
  · exact cell_alloc_keep (cell_new_at _ _ _ _ _ _ (by simp) rfl) _
  · exact cell_alloc_keep (cell_new_at _ _ _ _ _ _ (by simp) rfl) _
  · exact cell_new_at _ _ _ _ _ _ (by simp) rfl
  · intro X Y hXY
    refine hXY.mono (fun k hk => ?_)
    rcases hk with h | rfl | rfl
    · left; omega
    · right; simp; omega
    · right; simp
theorem Onward.later {n gf : Nat} {lb : Array Value} {adj : Int → List Int} {P : Nat → Prop} {M : Nat} {w W : World} (h : Onward n gf lb adj P M w) (hK : Keep P w W) : Onward n gf lb adj P M W :=
  fun W' c h0 h1 hK' => h W' c h0 h1 (hK.trans hK')

set_option maxHeartbeats 400000 in
theorem ahead_any (x y z : Value) (w : World) :
    Calls Tryd.prog 44 #[.agg #[x, y, z]] w fun e w' => e = .returned (.func (.func 57) #[] #[.pointer (some ⟨w.heap.size, 0, none⟩)]) ∧ w.alloc (.cells #[x, y, z] 31) = w' := by
  go_enter Tryd.func44, Tryd.ntmps44
  go_wp2
  go_ret
  exact ⟨rfl, rfl⟩
end Go.Proofs.YtcpjkilnbhfpjaaDoor
