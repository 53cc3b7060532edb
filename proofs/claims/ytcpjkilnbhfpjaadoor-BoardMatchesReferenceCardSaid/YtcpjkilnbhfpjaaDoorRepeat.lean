/-
  Repeat of the package slices, for a slice of one number.
-/
import Derived.Test.YtcpjkilnbhfpjaaDoorLib
import Derived.Laws.CopyOwn
import Derived.Deep.RegionLaw
import Derived.Deep.RegionHeld3
import Derived.OwnWalk
import Derived.IntWalk
namespace Go.Proofs.YtcpjkilnbhfpjaaDoor
open Go Go.RowKit Go.Shelf

theorem info_int' : (Tryd.prog.info? 3).map (fun i => (i.zero, i.size, i.bytes)) = some (some (.int .i64 0), 1, 8) := by kernel_rfl

/-- k numbers x, and zeros up to n. -/
def filled (n k : Nat) (x : Int) : List Value := List.replicate k (.int .i64 x) ++ List.replicate (n - k) (.int .i64 0)

theorem filled_splice (n k m : Nat) (x : Int) : splice (filled n k x) k (List.replicate m (.int .i64 x)) = filled n (k + m) x := by
  unfold splice filled
  rw [List.take_append_of_le_length (by simp), List.take_of_length_le (by simp), List.drop_append, List.drop_of_length_le (by simp), List.nil_append, List.drop_replicate, ← List.append_assoc, List.replicate_append_replicate]
  congr 2
  simp; omega

theorem filled_len (n k : Nat) (x : Int) (h : k ≤ n) : (filled n k x).length = n := by simp [filled]; omega

theorem made_filled {W : World} {G : Nat} (n : Nat) (x : Int) (h : W.ownsRow G 3 1 (.slice (some ⟨G, 0, none⟩) n n) n (madeCells (Value.int .i64 0).cells (n * 1)).toList) : W.heap[G]? = some (.cells (filled n 0 x).toArray 3 (0, 0)) := by
  rcases h.2 with ⟨h0, _⟩ | ⟨g, cap, cur, hv, _, hc, _, _, hs, ht⟩
  · cases h0
  cases hv
  rw [hc]
  rw [Nat.mul_one] at ht hs
  have e : (madeCells (Value.int .i64 0).cells n).toList = List.replicate n (.int .i64 0) := toList_madeCells_one _ _
  rw [e, List.take_of_length_le (by simp [hs])] at ht
  have : cur = (filled n 0 x).toArray := by
    apply Array.ext'
    simpa [filled] using ht
  rw [this]

theorem one_elem {x : Value} {j : Nat} {v : Value} (h : [x][j]? = some v) : j = 0 ∧ v = x := by
  cases j with
  | zero => simp at h; exact ⟨rfl, h.symm⟩
  | succ j => simp at h

theorem mul_one_n (n : Nat) (h : n ≤ 64) (W : World) : Calls Tryd.prog 58 #[.int .u64 1, .int .u64 n] W fun e w' => e = .returned (.tuple #[.int .u64 0, .int .u64 n]) ∧ W = w' := by
  refine (Tryd.bits_Mul 1 n (by omega) (by omega) W).mono ?_
  rintro e w' ⟨rfl, rfl⟩
  have e1 : 1 * n / 18446744073709551616 = 0 := by omega
  have e2 : 1 * n % 18446744073709551616 = n := by omega
  rw [e1, e2]
  exact ⟨rfl, rfl⟩

set_option maxRecDepth 100000 in
set_option maxHeartbeats 2000000 in
theorem repeat_one (n : Nat) (x : Int) (sb : Nat) (w : World) (h1 : 1 ≤ n) (h64 : n ≤ 64) (hs : w.cell? ⟨sb, 0, none⟩ = some (.int .i64 x)) :
    Calls Tryd.prog 46 #[.slice (some ⟨sb, 0, none⟩) 1 1, .int .i64 n] w fun e w' => ∃ v, e = .returned v ∧ OwnInts w.heap.size w' v (List.replicate n x) ∧ Below w.heap.size w w' := by
  obtain ⟨i0, hi, hz0, hz1, hz2⟩ := info_parts info_int'
  have hn0 : decide ((n : Int) < 0) = false := by simp
  have hsb := World.block_lt_of_cell? w _ hs
  go_enter Tryd.func46, Tryd.ntmps46
  go_wp2_with fail
  refine (mul_one_n n h64 _).mono ?_
  rintro e w' ⟨rfl, rfl⟩
  go_wp2_with (first
    | (at_make; refine wpList_make_full _ rfl _ _ 29 rfl w.heap.size 3 i0 (.int .i64 0) 1 Tryd.underlying29 hi hz0 hz1 .i64 .i64 n n n rfl rfl rfl rfl (by rw [hz2]; omega) (by unfold maxLen; omega) (Nat.le_refl _) ?_; intro w1 hown hgrow
       have hg0 := made_filled n x hown
       have hb0 : Below w.heap.size w w1 := (Below.refl _ w).grown hgrow (Nat.le_refl _) (fun _ e => by cases e)
       have hs1 := cell_keep hb0 hs
       have HG := Lib.hid hg0
       clear hown hg0 hgrow)
    | (refine wpList_copy_splice rfl (.tmp 31) (.tmp 32) 29 29 rfl 3 Tryd.underlying29 (by rw [hi]; simp [hz1]) (some ⟨w.heap.size, 0, none⟩) (some ⟨sb, 0, none⟩) n n 1 1 rfl rfl w.heap.size 0 _ 3 HG.out [.int .i64 x] (Nat.min_eq_left h1).symm (fun _ => ⟨rfl, _, rfl, by intro j v hv; obtain ⟨rfl, rfl⟩ : j = 0 ∧ v = .int .i64 x := one_elem hv; exact hs1⟩) (by rw [filled_len _ _ _ (by omega)]; simp; omega) (by simp [Value.oneCell']) w.heap.size w hb0 (Nat.le_refl _) ?_; intro w2 hg2 hb2))
  have hg3 : w2.heap[w.heap.size]? = some (.cells (filled n 1 x).toArray 3 (0, 0)) := by
    have := hg2.out
    rw [show splice (filled n 0 x) 0 [Value.int .i64 x] = filled n (0 + 1) x from filled_splice n 0 1 x] at this
    exact this
  have HG3 := Lib.hid hg3
  clear hg3 hg2 HG
  go_loopw [8] (fun i wr => ∃ k : Nat, 1 ≤ k ∧ k ≤ n ∧ i = .int .i64 k ∧ Hid (wr.heap[w.heap.size]? = some (.cells (filled n k x).toArray 3 (0, 0))) ∧ Below w.heap.size w wr)
    (fun i _ => n - (intOf i).toNat)
  case atStart => exact ⟨1, Nat.le_refl _, h1, rfl, HG3.out, hb2⟩
  case round =>
    obtain ⟨k, hk1, hkn, rfl, hg, hb⟩ := hrel
    by_cases hlt : k < n
    · go_wp2_with fail
      have hk0 : (0 : Int) ≤ (k : Int) := Int.natCast_nonneg _
      have hkn' : (k : Int) ≤ (n : Int) := by omega
      refine wp_region_held_drew (S := fun _ => True) (by kernel_rfl) trivial (fun hHeld => ?_)
      refine wpAnyH_take (i := 0) (oi := { dst := some 38, op := Op.move (Operand.tmp 8), type := 3, pos := "slices.go:528", after := #[], guard := none }) (v := ?_) rfl (by kernel_rfl) (by kernel_rfl) (by kernel_rfl) (fun _ _ _ h => h) (Or.inl ⟨by rfl, ?_⟩) (by assumption) ?_
      rotate_left
      · ((intro w hSw; (try dsimp only at hSw); go_simp); try with_reducible rfl)
      (try simp only [Act.put, List.setIfInBounds_toArray, List.set_cons_zero, List.set_cons_succ])
      refine wpAnyH_take (i := 1) (oi := { dst := some 39, op := Op.move (Operand.tmp 7), type := 29, pos := "slices.go:528", after := #[], guard := none }) (v := ?_) rfl (by kernel_rfl) (by kernel_rfl) (by kernel_rfl) (fun _ _ _ h => h) (Or.inl ⟨by rfl, ?_⟩) (by assumption) ?_
      rotate_left
      · ((intro w hSw; (try dsimp only at hSw); go_simp); try with_reducible rfl)
      (try simp only [Act.put, List.setIfInBounds_toArray, List.set_cons_zero, List.set_cons_succ])
      refine wpAnyH_take (i := 2) (oi := { dst := some 40, op := Op.move (Operand.tmp 8), type := 3, pos := "slices.go:528", after := #[], guard := none }) (v := ?_) rfl (by kernel_rfl) (by kernel_rfl) (by kernel_rfl) (fun _ _ _ h => h) (Or.inl ⟨by rfl, ?_⟩) (by assumption) ?_
      rotate_left
      · ((intro w hSw; (try dsimp only at hSw); go_simp); try with_reducible rfl)
      (try simp only [Act.put, List.setIfInBounds_toArray, List.set_cons_zero, List.set_cons_succ])
      refine wpAnyH_take (i := 3) (oi := { dst := some 41, op := Op.slice 29 (Operand.tmp 39) (some (Operand.tmp 40)) none none, type := 29, pos := "slices.go:528", after := #[{ on := 1, ground := Ground.data }, { on := 2, ground := Ground.data }], guard := none }) (v := ?_) rfl (by kernel_rfl) (by kernel_rfl) (by kernel_rfl) (fun _ _ _ h => h) (Or.inl ⟨by rfl, ?_⟩) (by assumption) ?_
      rotate_left
      · ((intro w hSw; (try dsimp only at hSw); go_simp); try with_reducible rfl)
      (try simp only [Act.put, List.setIfInBounds_toArray, List.set_cons_zero, List.set_cons_succ])
      refine wpAnyH_take (i := 4) (oi := { dst := some 42, op := Op.move (Operand.tmp 7), type := 29, pos := "slices.go:528", after := #[], guard := none }) (v := ?_) rfl (by kernel_rfl) (by kernel_rfl) (by kernel_rfl) (fun _ _ _ h => h) (Or.inl ⟨by rfl, ?_⟩) (by assumption) ?_
      rotate_left
      · ((intro w hSw; (try dsimp only at hSw); go_simp); try with_reducible rfl)
      (try simp only [Act.put, List.setIfInBounds_toArray, List.set_cons_zero, List.set_cons_succ])
      refine wpAnyH_take (i := 5) (oi := { dst := some 43, op := Op.move (Operand.tmp 8), type := 3, pos := "slices.go:528", after := #[], guard := none }) (v := ?_) rfl (by kernel_rfl) (by kernel_rfl) (by kernel_rfl) (fun _ _ _ h => h) (Or.inl ⟨by rfl, ?_⟩) (by assumption) ?_
      rotate_left
      · ((intro w hSw; (try dsimp only at hSw); go_simp); try with_reducible rfl)
      (try simp only [Act.put, List.setIfInBounds_toArray, List.set_cons_zero, List.set_cons_succ])
      refine wpAnyH_take (i := 6) (oi := { dst := some 44, op := Op.slice 29 (Operand.tmp 42) none (some (Operand.tmp 43)) none, type := 29, pos := "slices.go:528", after := #[{ on := 4, ground := Ground.data }, { on := 5, ground := Ground.data }], guard := none }) (v := ?_) rfl (by kernel_rfl) (by kernel_rfl) (by kernel_rfl) (fun _ _ _ h => h) (Or.inl ⟨by rfl, ?_⟩) (by assumption) ?_
      rotate_left
      · ((intro w hSw; (try dsimp only at hSw); go_simp); try with_reducible rfl)
      (try simp only [Act.put, List.setIfInBounds_toArray, List.set_cons_zero, List.set_cons_succ])
      refine wpAnyH_ready (rs := [7]) (by kernel_rfl) (by simp) ?_
      refine AllReadyH.cons (o := { dst := some 45, op := Op.call { callee := Callee.builtin Builtin.copy, args := #[Operand.tmp 41, Operand.tmp 44], argTypes := #[29, 29] }, type := 3, pos := "slices.go:528", after := #[{ on := 3, ground := Ground.data }, { on := 6, ground := Ground.data }], guard := none }) rfl (fun K hK => ?_) AllReadyH.nil
      have hnk : ¬ n = k := by omega
      have hmin : Nat.min k (n - k) ≤ n - k := Nat.min_le_right _ _
      have hmin2 : Nat.min k (n - k) ≤ k := Nat.min_le_left _ _
      have hmin3 : 1 ≤ Nat.min k (n - k) := Nat.le_min.2 ⟨hk1, by omega⟩
      have hsrc : ∀ j v, (List.replicate (Nat.min k (n - k)) (Value.int .i64 x))[j]? = some v → wr.drew.cell? ((⟨w.heap.size, 0, none⟩ : Addr).add j) = some v := by
        intro j v hv
        have hj : j < Nat.min k (n - k) := by
          have := (List.getElem?_eq_some_iff.1 hv).1; simpa using this
        have hv' : v = .int .i64 x := by
          have := (List.getElem?_eq_some_iff.1 hv).2; simpa using this.symm
        subst hv'
        have h1 := hg.out
        have ha : ((⟨w.heap.size, 0, none⟩ : Addr).add j) = ⟨w.heap.size, j, none⟩ := by
          simp [Addr.add]
          intro h; exact h.symm
        rw [ha]
        show wr.cell? ⟨w.heap.size, j, none⟩ = _
        simp only [World.cell?, h1, Option.isSome_none, Bool.false_eq_true, if_false]
        simp [filled, List.getElem?_append, show j < k by omega]
      refine step_copy_splice rfl (.tmp 41) (.tmp 44) 29 29 rfl 3 Tryd.underlying29 (by rw [hi]; simp [hz1]) _ (some ⟨w.heap.size, 0, none⟩) (n - k) (n - k) k n rfl rfl w.heap.size k (filled n k x) 3 (show wr.drew.heap[w.heap.size]? = _ from hg.out) (List.replicate (Nat.min k (n - k)) (.int .i64 x)) (by simp) (fun _ => ⟨if_neg hnk, _, rfl, hsrc⟩) (by rw [filled_len _ _ _ hkn]; simp; omega) (by intro v hv; rw [List.eq_of_mem_replicate hv]; rfl) w.heap.size w hb.drew (Nat.le_refl _) ?_
      intro w4 hg4 hb4
      rw [filled_splice] at hg4
      generalize Nat.min k (n - k) = mm at *
      refine hK.out _ _ trivial (fun _ => ?_)
      clear hK K
      (try simp only [Act.put, List.setIfInBounds_toArray, List.set_cons_zero, List.set_cons_succ])
      have hw1 : IntKind.i64.wrap ((k : Int) + (mm : Int)) = (k : Int) + (mm : Int) := IntWalk.i64_in _ (by omega)
      refine wpAnyH_take (i := 8) (oi := { dst := some 46, op := Op.binOp BinOp.add 3 (Operand.tmp 38) (Operand.tmp 45) 3, type := 3, pos := "slices.go:528", after := #[{ on := 0, ground := Ground.data }, { on := 7, ground := Ground.data }], guard := none }) (v := ?_) rfl (by kernel_rfl) (by kernel_rfl) (by kernel_rfl) (fun _ _ _ h => h) (Or.inl ⟨by rfl, ?_⟩) (by assumption) ?_
      rotate_left
      · ((intro w hSw; (try dsimp only at hSw); go_simp); try with_reducible rfl)
      (try simp only [Act.put, List.setIfInBounds_toArray, List.set_cons_zero, List.set_cons_succ])
      refine wpAnyH_take (i := 9) (oi := { dst := some 8, op := Op.assign (Operand.tmp 46), type := 3, pos := "slices.go:528", after := #[{ on := 8, ground := Ground.data }, { on := 7, ground := Ground.chain }, { on := 0, ground := Ground.phase }, { on := 1, ground := Ground.phase }, { on := 2, ground := Ground.phase }, { on := 3, ground := Ground.phase }, { on := 4, ground := Ground.phase }, { on := 5, ground := Ground.phase }, { on := 6, ground := Ground.phase }, { on := 7, ground := Ground.phase }, { on := 8, ground := Ground.phase }], guard := none }) (v := ?_) rfl (by kernel_rfl) (by kernel_rfl) (by kernel_rfl) (fun _ _ _ h => h) (Or.inl ⟨by rfl, ?_⟩) (by assumption) ?_
      rotate_left
      · ((intro w hSw; (try dsimp only at hSw); go_simp); try with_reducible rfl)
      (try simp only [Act.put, List.setIfInBounds_toArray, List.set_cons_zero, List.set_cons_succ])
      refine wpAnyH_done (by kernel_rfl) ?_ _
      clear hnk hsrc
      go_wp2
      go_roundw
      case rel => exact ⟨k + mm, by omega, by omega, by simp, hg4, hb4⟩
      case measure => simp [intOf]; omega
    · obtain rfl : k = n := by omega
      go_wp2
      go_ret
      refine ⟨_, rfl, ⟨by simp, .inr ⟨w.heap.size, k, _, by simp, Nat.le_refl _, hg.out, by simp, by unfold maxLen; omega, by simp [filled], ?_⟩⟩, hb⟩
      simp [filled]
end Go.Proofs.YtcpjkilnbhfpjaaDoor
