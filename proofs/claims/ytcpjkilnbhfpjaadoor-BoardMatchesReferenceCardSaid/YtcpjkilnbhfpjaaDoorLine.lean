/-
  Line of the package board.
-/
import Derived.Test.YtcpjkilnbhfpjaaDoorWalk
import Derived.Test.YtcpjkilnbhfpjaaDoorRangeSt
import Derived.Test.YtcpjkilnbhfpjaaDoorNear
import Derived.Maps.OwnIn
namespace Go.Proofs.YtcpjkilnbhfpjaaDoor
open Go Go.RowKit Go.Shelf

attribute [local go_sem] Oper.semAt_some

/-- walk yields just these cells, in this order. -/
theorem walk_gives (n : Nat) (B : Brd) (hB : B.Ok) (an at_ : Option Addr) (cn ct : Nat) (c dd : Int) (Bc Bb Bd N : Nat) (w : World) (hNW : N ≤ w.heap.size) (hBc : Bc < w.heap.size) (hBb : Bb < w.heap.size) (hBd : Bd < w.heap.size)
    (hb0 : w.cell? ⟨Bb, 0, none⟩ = some (.int .i64 B.cells)) (hb1 : w.cell? ⟨Bb, 1, none⟩ = some (.slice an B.next.length cn)) (hb2 : w.cell? ⟨Bb, 2, none⟩ = some (.slice at_ B.turn.length ct))
    (hc0 : w.cell? ⟨Bc, 0, none⟩ = some (.int .i64 c)) (hd0 : w.cell? ⟨Bd, 0, none⟩ = some (.int .i64 dd)) (hH : Held N w an at_ B) :
    GivesSt n Tryd.prog 53 #[.pointer (some ⟨Bc, 0, none⟩), .pointer (some ⟨Bb, 0, none⟩), .pointer (some ⟨Bd, 0, none⟩)] (fun f => Keep fun k => walkP N Bc Bb Bd k ∨ k = f) (lineS B dd c) 64 w := fun l J W hW hJ hY h0 => by
  have hs := hW.size
  exact walk1_in n B hB an at_ cn ct c dd l Bc Bb Bd N W J hJ hY (by omega) (by omega) (by omega) (by omega) (cell_keep hW hb0) (cell_keep hW hb1) (cell_keep hW hb2) (cell_keep hW hc0) (cell_keep hW hd0) (hH.up hNW hW) h0

set_option maxRecDepth 100000 in
set_option maxHeartbeats 2000000 in
theorem appendSeq_walk (n : Nat) (B : Brd) (hB : B.Ok) (an at_ : Option Addr) (cn ct : Nat) (c dd : Int) (Bc Bb Bd N : Nat) (w : World) (hNW : N ≤ w.heap.size) (hBc : Bc < w.heap.size) (hBb : Bb < w.heap.size) (hBd : Bd < w.heap.size)
    (hb0 : w.cell? ⟨Bb, 0, none⟩ = some (.int .i64 B.cells)) (hb1 : w.cell? ⟨Bb, 1, none⟩ = some (.slice an B.next.length cn)) (hb2 : w.cell? ⟨Bb, 2, none⟩ = some (.slice at_ B.turn.length ct))
    (hc0 : w.cell? ⟨Bc, 0, none⟩ = some (.int .i64 c)) (hd0 : w.cell? ⟨Bd, 0, none⟩ = some (.int .i64 dd)) (hH : Held N w an at_ B) :
    CallsIn Fence.wide (n + 2) Tryd.prog 52 #[.slice none 0 0, .func (.func 53) #[] #[.pointer (some ⟨Bc, 0, none⟩), .pointer (some ⟨Bb, 0, none⟩), .pointer (some ⟨Bd, 0, none⟩)]] w fun e w' => ∃ v, e = .returned v ∧ OwnInts w.heap.size w' v (lineS B dd c) ∧ Below w.heap.size w w' := by
  obtain ⟨i0, hi, hz0, hz1, hz2⟩ := info_parts info_int
  refine callsIn_of_wp_marks Tryd.func52 rfl trivial ?_ rfl
  simp only [Tryd.ntmps52, List.size_toArray, List.length_cons, List.length_nil, Nat.reduceAdd, Nat.reduceSub, Array.replicate_succ, Array.replicate_zero, List.push_toArray, List.append_toArray, List.nil_append, List.cons_append]
  gi_wp2_with fail
  obtain ⟨W0, hW0⟩ : ∃ W0, w.alloc (Obj.cells #[Value.slice none 0 0] 29) = W0 := ⟨_, rfl⟩
  have hs0 : W0.heap.size = w.heap.size + 1 := by rw [← hW0]; simp
  have hB0 : Below w.heap.size w W0 := by rw [← hW0]; (repeat (first | exact Below.refl _ _ | assumption | refine below_alloc ?_ _ | refine Below.drew ?_ | refine below_drewN_ ?_ _ | refine below_step ?_ (by assumption)))
  have bO : Boxed W0 w.heap.size 29 (.slice none 0 0) := by rw [← hW0]; exact boxed_new_at _ _ _ _ rfl
  rw [hW0]
  clear hW0
  refine wpIn_range_st (N := 64) (gf := 53) (lb := #[.pointer (some ⟨Bc, 0, none⟩), .pointer (some ⟨Bb, 0, none⟩), .pointer (some ⟨Bd, 0, none⟩)]) rfl (enters_of Tryd.func53 (by kernel_rfl) rfl)
    (walk_gives n B hB an at_ cn ct c dd Bc Bb Bd N w hNW hBc hBb hBd hb0 hb1 hb2 hc0 hd0 hH) hB0 rfl (fun _ _ _ _ h k => h.trans k)
    (fun f W l o o' hl hlf hfW hlo _ => (Alters.of_grown (grownBy_putObj' W l o')).keep (fun k hk => ⟨?kb1, fun e => ?kb2⟩))
    (fun f pre W => (∃ v, Boxed W w.heap.size 29 v ∧ W.ownsRow (w.heap.size + 1) 3 1 v pre.length (pre.map (Value.int .i64)) ∧ ¬ some f = v.ownBlock) ∧ Below w.heap.size w W)
    ?hI (fun f hf => ⟨⟨_, bO, World.ownsRow_nil _ _ _ _, by simp [Value.ownBlock]⟩, hB0⟩)
    (fun x => { tmps := #[.slice none 0 0, .func (.func 53) #[] #[.pointer (some ⟨Bc, 0, none⟩), .pointer (some ⟨Bb, 0, none⟩), .pointer (some ⟨Bd, 0, none⟩)], .pointer (some ⟨w.heap.size, 0, none⟩), undef, .slice none 0 0, .int .i64 x,
      .func (.func 53) #[] #[.pointer (some ⟨Bc, 0, none⟩), .pointer (some ⟨Bb, 0, none⟩), .pointer (some ⟨Bd, 0, none⟩)], .int .i64 x, undef, undef, undef, undef, undef], defers := [] }) ?assign ?body ?done
  case kb1 =>
    have hlt := (Array.getElem?_eq_some_iff.1 hlo).1
    rcases hk with h | rfl
    · unfold walkP at h; omega
    · exact hfW
  case kb2 =>
    have e' : k = l := by simpa using e
    rcases hk with h | rfl
    · unfold walkP at h; omega
    · exact hlf e'.symm
  case hI =>
    rintro f pre X Y row ⟨⟨v, hv, hrow, hne⟩, hB1⟩ hg hr
    have hvb : ¬ row = some w.heap.size := fun e => by have := (hr _ e).1; omega
    refine ⟨⟨v, hv.kept hg (fun e => hvb e.symm), hrow.kept hg ?_, hne⟩, hB1.grown hg hB1.size (fun k e => by have := (hr k e).1; omega)⟩
    by_cases hn : v.ownBlock = none
    · exact .inl hn
    · refine .inr fun e => ?_
      obtain ⟨r, hr1⟩ : ∃ r, row = some r := by
        cases h : v.ownBlock with
        | none => exact absurd h hn
        | some r => exact ⟨r, by rw [← e, h]⟩
      rcases (hr r hr1).2 with rfl | ⟨o, ho, hoc⟩
      · exact hne (by rw [e, hr1])
      · exact not_own hrow ho hoc (by rw [e, hr1])
  case assign =>
    intro l x W K hK
    gi_wp2
    exact hK
  case body =>
    rintro l f pre x W hf hfW ⟨⟨v, hv, hrow, hne⟩, hB1⟩ hlt
    have hcv := hv.cell
    have hblt := hv.lt
    gi_wp2_with (gi_at_builtin; refine wpListIn_append_own_at _ rfl _ _ 29 rfl (w.heap.size + 1) 3 i0 (.int .i64 0) 1 8 Tryd.underlying29 hi hz0 hz1 hz2 rfl (by decide) _ _ _ rfl (hrow.alloc _) ⟨W.heap.size, 0, none⟩ 1 1 [.int .i64 x] rfl rfl (cell_one_new _ _ _) (by simp [Value.oneCell']) (by unfold maxLen; omega) (by omega) (by simp; omega) ?_; intro v' w1 hown' hgrow _ hat; obtain ⟨g', cap', rfl⟩ := ownsRow_succ hown'; obtain ⟨hv1, hv2, hr2, hk2, hal⟩ := appended_at hv (by decide) hrow hown' hgrow; have hc1 := hv1.cell; have hf1 := hv1.frozen)
    have hS : ∀ k, k = w.heap.size ∨ some k = v.ownBlock → w.heap.size ≤ k := by
      intro k hk
      rcases hk with rfl | e
      · exact Nat.le_refl _
      · have := (World.ownsRow.lt hrow k e.symm).1; omega
    have hSf : ¬ (f = w.heap.size ∨ some f = v.ownBlock) := by
      rintro (h | h)
      · omega
      · exact hne h
    refine ⟨hk2.from _, hal.keep (fun k hk => ?_), ⟨_, hv2, by simpa using hr2, ?_⟩, hB1.trans (hal.below (by omega) hS)⟩
    · rcases hk with h | rfl
      · unfold walkP at h
        refine ⟨by omega, fun e => ?_⟩
        rcases e with rfl | e
        · omega
        · have := (World.ownsRow.lt hrow k e.symm).1; omega
      · exact ⟨hfW, hSf⟩
    · intro e
      rcases hat with h | h
      · exact hne (e.trans h)
      · rw [h] at e; have e' : f = W.heap.size + 1 := by simpa using e
        omega
  case done =>
    rintro D f W hD hf ⟨⟨v, hv, hrow, hne⟩, hB1⟩ hK
    have hcv := hv.cell
    gi_wp2
    refine ⟨by simp, .inl ⟨_, _, rfl, run_takeDeferred hK, ?_⟩⟩
    exact ⟨_, results_tmp rfl _ _ _, v, rfl, ownsRow_putObj (OwnInts.mono (l := lineS B dd c) hrow (by omega)) _ hK rfl, hB1.trans (belowK_b (w := w) (Nat.le_refl _) W D _ _ (by omega) hK rfl rfl)⟩

set_option maxHeartbeats 1000000 in
theorem collect_walk (n : Nat) (B : Brd) (hB : B.Ok) (an at_ : Option Addr) (cn ct : Nat) (c dd : Int) (Bc Bb Bd N : Nat) (w : World) (hNW : N ≤ w.heap.size) (hBc : Bc < w.heap.size) (hBb : Bb < w.heap.size) (hBd : Bd < w.heap.size)
    (hb0 : w.cell? ⟨Bb, 0, none⟩ = some (.int .i64 B.cells)) (hb1 : w.cell? ⟨Bb, 1, none⟩ = some (.slice an B.next.length cn)) (hb2 : w.cell? ⟨Bb, 2, none⟩ = some (.slice at_ B.turn.length ct))
    (hc0 : w.cell? ⟨Bc, 0, none⟩ = some (.int .i64 c)) (hd0 : w.cell? ⟨Bd, 0, none⟩ = some (.int .i64 dd)) (hH : Held N w an at_ B) :
    Calls Tryd.prog 35 #[.func (.func 53) #[] #[.pointer (some ⟨Bc, 0, none⟩), .pointer (some ⟨Bb, 0, none⟩), .pointer (some ⟨Bd, 0, none⟩)]] w fun e w' => ∃ v, e = .returned v ∧ OwnInts w.heap.size w' v (lineS B dd c) ∧ Below w.heap.size w w' := by
  go_enter Tryd.func35, Tryd.ntmps35
  go_wp2_with fail
  refine (callsIn_wide.1 (appendSeq_walk n B hB an at_ cn ct c dd Bc Bb Bd N w hNW hBc hBb hBd hb0 hb1 hb2 hc0 hd0 hH)).mono ?_
  rintro e w' ⟨v, rfl, h1, h2⟩
  go_wp2
  go_ret
  exact ⟨v, rfl, h1, h2⟩

def lineOf (B : Brd) (side d c : Int) : List Int := lineS B (meantS B.turn side d) c

set_option maxRecDepth 100000 in
set_option maxHeartbeats 1000000 in
theorem line_any (B : Brd) (hB : B.Ok) (an at_ : Option Addr) (cn ct : Nat) (side d c : Int) (N : Nat) (w : World) (hN : N ≤ w.heap.size) (hH : Held N w an at_ B) :
    Calls Tryd.prog 16 #[B.val an cn at_ ct, .int .i64 side, .int .i64 d, .int .i64 c] w fun e w' => ∃ v, e = .returned v ∧ OwnInts w.heap.size w' v (lineOf B side d c) ∧ Below w.heap.size w w' := by
  unfold lineOf
  go_enter Tryd.func16, Tryd.ntmps16
  go_wp2_with fail
  go_region_held3 (fun w' => w'.cell? ⟨w.heap.size, 0, none⟩ = some (.int .i64 B.cells) ∧ w'.cell? ⟨w.heap.size, 1, none⟩ = some (.slice an B.next.length cn) ∧ w'.cell? ⟨w.heap.size, 2, none⟩ = some (.slice at_ B.turn.length ct) ∧ Below w.heap.size w w')
    (first
      | (go_keep; done)
      | ((try go_split_ands)
         refine ⟨?_, ?_, ?_, ?_⟩
         · first | exact cell_alloc_keep (cell_alloc_keep (cell_alloc_keep (by assumption) _) _) _ | exact cell_alloc_keep (by assumption) _ | exact cell_keep (by assumption) (by assumption) | (go_keep; done)
         · first | exact cell_alloc_keep (cell_alloc_keep (cell_alloc_keep (by assumption) _) _) _ | exact cell_alloc_keep (by assumption) _ | exact cell_keep (by assumption) (by assumption) | (go_keep; done)
         · first | exact cell_alloc_keep (cell_alloc_keep (cell_alloc_keep (by assumption) _) _) _ | exact cell_alloc_keep (by assumption) _ | exact cell_keep (by assumption) (by assumption) | (go_keep; done)
         · (repeat (first | exact Below.refl _ _ | assumption | refine below_alloc ?_ _ | refine Below.drew ?_ | refine below_drewN_ ?_ _ | refine below_step ?_ (by assumption)))))
    (first | (go_at_call 34; refine (meant_any _ _ _ _ _ _ _ N _ (by simp; omega) (hH.2.up hN (by (repeat (first | exact Below.refl _ _ | assumption | refine below_alloc ?_ _ | refine Below.drew ?_ | refine below_drewN_ ?_ _ | refine below_step ?_ (by assumption)))))).mono ?_; rintro e w' ⟨rfl, rfl⟩)
           | (go_at_call 36; refine (walk_any _ _ _ _ _ _).mono ?_; rintro e w' ⟨rfl, rfl⟩)
           | (go_at_call 35; refine (collect_walk 0 B hB an at_ cn ct c (meantS B.turn side d) (w.heap.size + 1 + 1 + 1 + 1) (w.heap.size + 1 + 1) (w.heap.size + 1 + 1 + 1) N _ (by first | (simp; done) | (simp; omega)) (by simp) (by first | (simp; done) | (simp; omega)) (by simp) (by (repeat (first | exact cell_new_at _ _ _ _ _ _ (by simp) rfl | refine cell_drew ?_ | refine cell_alloc_keep ?_ _))) (by (repeat (first | exact cell_new_at _ _ _ _ _ _ (by simp) rfl | refine cell_drew ?_ | refine cell_alloc_keep ?_ _))) (by (repeat (first | exact cell_new_at _ _ _ _ _ _ (by simp) rfl | refine cell_drew ?_ | refine cell_alloc_keep ?_ _))) (by (repeat (first | exact cell_new_at _ _ _ _ _ _ (by simp) rfl | refine cell_drew ?_ | refine cell_alloc_keep ?_ _))) (by (repeat (first | exact cell_new_at _ _ _ _ _ _ (by simp) rfl | refine cell_drew ?_ | refine cell_alloc_keep ?_ _))) (hH.up hN (by (repeat (first | exact Below.refl _ _ | assumption | refine below_alloc ?_ _ | refine Below.drew ?_ | refine below_drewN_ ?_ _ | refine below_step ?_ (by assumption)))))).mono ?_; rintro e w' ⟨v, rfl, hown, hbb⟩))
  go_wp2
  go_ret
  exact ⟨v, rfl, hown.mono (by simp; omega), by (repeat (first | exact Below.refl _ _ | assumption | refine below_alloc ?_ _ | refine Below.drew ?_ | refine below_drewN_ ?_ _ | refine below_step ?_ (by assumption)))⟩
end Go.Proofs.YtcpjkilnbhfpjaaDoor
