/-
  Wild of the reference.
-/
import Derived.Test.YtcpjkilnbhfpjaaDoorGrid
import Derived.Test.YtcpjkilnbhfpjaaDoorWildS
namespace Go.Proofs.YtcpjkilnbhfpjaaDoor
open Go Go.RowKit Go.Shelf

theorem own_empty (W : World) : OwnInts W.heap.size (W.alloc (.cells #[] 3)) (.slice (some ⟨W.heap.size, 0, none⟩) 0 0) [] := by
  refine ⟨rfl, .inr ⟨W.heap.size, 0, #[], rfl, Nat.le_refl _, World.alloc_heap_new _ _, Nat.le_refl _, by omega, rfl, rfl⟩⟩

theorem wEnt_int (n v : Nat) : wEnt n v = if (v : Int) % ((n : Int) + 2) - 1 = n then -1 else (v : Int) % ((n : Int) + 2) - 1 := by
  unfold wEnt
  have e : ((v % (n + 2) : Nat) : Int) = (v : Int) % ((n : Int) + 2) := by rw [Int.natCast_emod]; rfl
  rw [e]
  have h0 : 0 ≤ (v : Int) % ((n : Int) + 2) := Int.emod_nonneg _ (by omega)
  by_cases h : v % (n + 2) = n + 1
  · rw [if_pos h, if_pos (by omega)]
  · rw [if_neg h, if_neg (by omega)]
theorem bit_of (x : Nat) (h : x ≤ 255) : (bits BinOp.and IntKind.u8 (x : Int) 1 == 1) = decide (x % 2 = 1) := by
  have key : ∀ y : Fin 256, (bits BinOp.and IntKind.u8 ((y.val : Nat) : Int) 1 == 1) = decide (y.val % 2 = 1) := by decide +kernel
  exact key ⟨x, by omega⟩
theorem results_cell1 {fn : Func} {p : Tmp} {ty : TypeId} (h : fn.results = #[.cell p ty]) (tmps : Array Value) (P : Program) (w : World) :
    (results fn tmps).run P w = ((asAddr (tmps.getD p undef)).run P w).andThen fun a w1 => ((loadVar ty a).run P w1).andThen fun v w2 => .ok v w2 := by
  simp only [results, h]
  simp [Sem.run_bind, Result.andThen]
  split
  · split <;> simp_all
  · rfl
theorem push_below {h : Nat} {w4 W WA W6 : World} {v : Value} {l : List Int} (hb : Below h w4 W) (hA : Below W.heap.size W WA) (hs : h ≤ W.heap.size) (ho : OwnInts h W v l) (hg : WA.grownBy W6 v.ownBlock) : Below h w4 W6 :=
  (hb.trans (hA.mono hs)).trans ((Alters.of_grown hg).below (Nat.le_trans hs hA.size) (fun k hk => (World.ownsRow.lt ho k hk.symm).1))

/-- No two of the slices lie in one block. -/
def Apart (vs : List Value) : Prop := ∀ (i j : Nat) v u, vs[i]? = some v → vs[j]? = some u → i ≠ j → ∀ k, some k = v.ownBlock → ¬ some k = u.ownBlock
theorem Apart.nil : Apart [] := fun i j v u h => by simp at h
theorem Apart.snoc {vs : List Value} {v : Value} (h : Apart vs) (hv : ∀ u ∈ vs, ∀ k, some k = v.ownBlock → ¬ some k = u.ownBlock) : Apart (vs ++ [v]) := by
  intro i j a b ha hb hij k hka hkb
  have hi := (List.getElem?_eq_some_iff.1 ha).1
  have hj := (List.getElem?_eq_some_iff.1 hb).1
  simp only [List.length_append, List.length_singleton] at hi hj
  by_cases h1 : i < vs.length
  · rw [List.getElem?_append_left h1] at ha
    by_cases h2 : j < vs.length
    · rw [List.getElem?_append_left h2] at hb
      exact h i j a b ha hb hij k hka hkb
    · obtain rfl : j = vs.length := by omega
      simp only [List.getElem?_concat_length, Option.some.injEq] at hb
      subst hb
      exact hv a (List.mem_of_getElem? ha) k hkb hka
  · obtain rfl : i = vs.length := by omega
    simp only [List.getElem?_concat_length, Option.some.injEq] at ha
    subst ha
    have h2 : j < vs.length := by omega
    rw [List.getElem?_append_left h2] at hb
    exact hv b (List.mem_of_getElem? hb) k hka hkb

/-- A board's two lists, both of the call's own, no two of them in one block. -/
def MadeIn (h : Nat) (W : World) (on ot : Value) (B : Brd) : Prop := ∃ vs, RowsN h W on B.next vs ∧ OwnInts h W ot B.turn ∧ Apart vs ∧ ∀ k, some k = ot.ownBlock → ∀ v ∈ vs, ¬ some k = v.ownBlock
theorem MadeIn.held {h : Nat} {W : World} {on ot : Value} {B : Brd} (hm : MadeIn h W on ot B) : ∃ an cn at_ ct, on = .slice an B.next.length cn ∧ ot = .slice at_ B.turn.length ct ∧ Held W.heap.size W an at_ B := by
  obtain ⟨vs, hr, ht, _⟩ := hm
  obtain ⟨an, cn, h1, h2⟩ := hr.rws
  obtain ⟨at_, ct, h3, h4⟩ := ht.ints
  exact ⟨an, cn, at_, ct, h1, h3, h2, h4⟩

set_option maxRecDepth 100000 in
set_option maxHeartbeats 4000000 in
theorem wild_own (xs : Array Value) (x0 x1 x2 : Nat) (nx : Nat → Nat) (hs : xs.size = 35) (b0 : x0 ≤ 255) (b1 : x1 ≤ 255) (b2 : x2 ≤ 255) (bn : ∀ j, nx j ≤ 255) (e0 : xs[0]? = some (.int .u8 x0)) (e1 : xs[1]? = some (.int .u8 x1)) (e2 : xs[2]? = some (.int .u8 x2)) (en : ∀ j, j < 32 → xs[3 + j]? = some (.int .u8 (nx j))) (w : World) :
    Calls Tryd.prog 12 #[.agg xs] w fun e W' => ∃ on ot, e = .returned (.agg #[.int .i64 (wildS (1 + x0 % 8) (1 + x1 % 4) x2 nx).cells, on, ot]) ∧ MadeIn w.heap.size W' on ot (wildS (1 + x0 % 8) (1 + x1 % 4) x2 nx) ∧ Below w.heap.size w W' := by
  obtain ⟨n, hn⟩ : ∃ n, n = 1 + x0 % 8 := ⟨_, rfl⟩
  obtain ⟨m, hm⟩ : ∃ m, m = 1 + x1 % 4 := ⟨_, rfl⟩
  rw [← hn, ← hm]
  have n1 : 1 ≤ n := by omega
  have n8 : n ≤ 8 := by omega
  have m1 : 1 ≤ m := by omega
  have m4 : m ≤ 4 := by omega
  have HNe := Lib.hid (by omega : 1 + (x0 : Int) % 8 = (n : Int))
  have HMe := Lib.hid (by omega : 1 + (x1 : Int) % 4 = (m : Int))
  clear hn hm
  have HR0 : (w.alloc (.cells xs 24)).heap[w.heap.size]? = some (.cells xs 24 (0, 0)) := World.alloc_heap_new _ _
  have k0 : ((w.alloc (.cells xs 24)).alloc (.cells #[.int .i64 0, .slice none 0 0, .slice none 0 0] 31)).cell? ⟨w.heap.size, 0, none⟩ = some (.int .u8 x0) := cell_alloc_keep (cell_new_at _ _ _ _ _ _ rfl e0) _
  have HS := Lib.hid hs
  clear hs
  go_enter Tryd.func12, Tryd.ntmps12
  go_wp2_with fail
  simp only [HNe.out, HMe.out]
  obtain ⟨w1, hw1⟩ : ∃ w1, ((w.alloc (.cells xs 24)).alloc (.cells #[.int .i64 0, .slice none 0 0, .slice none 0 0] 31)).alloc (.cells #[.int .i64 n, .slice none 0 0, .slice none 0 0] 31) = w1 := ⟨_, rfl⟩
  have hs1 : w1.heap.size = w.heap.size + 1 + 1 + 1 := by rw [← hw1]; simp
  have hB1 : Below w.heap.size w w1 := by rw [← hw1]; (repeat (first | exact Below.refl _ _ | assumption | refine below_alloc ?_ _ | refine Below.drew ?_ | refine below_drewN_ ?_ _ | refine below_step ?_ (by assumption)))
  have hbld : Bld w.heap.size (w.heap.size + 1 + 1) n w1 (.slice none 0 0) (.slice none 0 0) ((List.range 0).map (wRow n nx)) (wIds 0) [] :=
    ⟨by rw [← hw1, ← World.size_alloc w (.cells xs 24), ← World.size_alloc (w.alloc (.cells xs 24)) (.cells #[.int .i64 0, .slice none 0 0, .slice none 0 0] 31)]; exact World.alloc_heap_new _ _, RowsN.nil _ _, World.ownsRow_nil _ _ _ _, fun k hk => by simp [Value.ownBlock] at hk⟩
  have hz := Lib.hid (by rw [← hw1, Below.heap_alloc _ _ _ (by simp), ← World.size_alloc w (.cells xs 24)]; exact World.alloc_heap_new _ _ : w1.heap[w.heap.size + 1]? = some (.cells #[.int .i64 0, .slice none 0 0, .slice none 0 0] 31 (0, 0)))
  have hx := Lib.hid (by rw [← hw1, Below.heap_alloc _ _ _ (by simp; omega), Below.heap_alloc _ _ _ (by simp)]; exact World.alloc_heap_new _ _ : w1.heap[w.heap.size]? = some (.cells xs 24 (0, 0)))
  rw [hw1]
  clear hw1 HR0 k0 hs1
  have E0 := Lib.hid e0
  have E2 := Lib.hid e2
  have EN := Lib.hid en
  clear e0 e1 e2 en b0 b1
  go_loopw [5] (fun i wr => ∃ (d : Nat) (on ot : Value) (vs : List Value), d ≤ m ∧ i = .int .i64 d ∧ Bld w.heap.size (w.heap.size + 1 + 1) n wr on ot ((List.range d).map (wRow n nx)) (wIds d) vs ∧ Below w.heap.size w wr ∧ Hid (wr.heap[w.heap.size + 1]? = some (.cells #[.int .i64 0, .slice none 0 0, .slice none 0 0] 31 (0, 0))) ∧ Hid (wr.heap[w.heap.size]? = some (.cells xs 24 (0, 0))) ∧ Hid (Apart vs))
    (fun i _ => m - (intOf i).toNat)
  case atStart => exact ⟨0, _, _, _, by omega, rfl, hbld, hB1, hz, hx, Lib.hid Apart.nil⟩
  case round =>
    obtain ⟨d, on, ot, vs, hdm, rfl, hb, hbw, hzr, hxr, hapr⟩ := hrel
    generalize wr = w4 at *
    have hbs := hb.lt
    by_cases hlt : d < m
    · obtain ⟨i0, hi, hz0, hz1, hz2⟩ := info_parts info_int
      go_wp2_with fail
      obtain ⟨w5, hw5⟩ : ∃ w5, w4.alloc (.cells #[] 3) = w5 := ⟨_, rfl⟩
      have hown5 : OwnInts w4.heap.size w5 (.slice (some ⟨w4.heap.size, 0, none⟩) 0 0) ((List.range 0).map fun c => wEnt n (nx (8 * d + c))) := by
        rw [← hw5]
        exact own_empty _
      have hB5 : Below w4.heap.size w4 w5 := by rw [← hw5]; exact (Below.refl _ _).alloc (Nat.le_refl _) _
      rw [hw5]
      clear hw5
      have hls := hB5.size
      go_loopw [6, 7] (fun l i wi => ∃ c : Nat, c ≤ n ∧ i = .int .i64 c ∧ OwnInts w4.heap.size wi l ((List.range c).map fun c => wEnt n (nx (8 * d + c))) ∧ Below w4.heap.size w4 wi)
        (fun _ i _ => n - (intOf i).toNat)
      case atStart => exact ⟨0, Nat.zero_le _, rfl, hown5, hB5⟩
      case round =>
        obtain ⟨c, hcn, rfl, hown, hbi⟩ := hrel
        have hbB := hb.below hbi
        obtain ⟨hc0, _, _, _, _⟩ := hbB.cell
        by_cases hcl : c < n
        · obtain ⟨p, hp⟩ : ∃ p, p = 8 * d + c := ⟨_, rfl⟩
          have hp32 : p < 32 := by omega
          have hcx : wr.cell? ⟨w.heap.size, 3 + p, none⟩ = some (.int .u8 (nx p)) := by
            unfold World.cell?
            have h0 := (hbi.block w.heap.size (by omega)).trans hxr.out
            rw [h0]
            exact EN.out p hp32
          have hv := bn p
          have HENT := Lib.hid (by rw [hp] : wEnt n (nx (8 * d + c)) = wEnt n (nx p))
          generalize nx p = v at hcx hv HENT
          have p1 : IntKind.i64.wrap (8 * (d : Int)) = 8 * (d : Int) := IntWalk.i64_in _ (by omega)
          have p2 : IntKind.i64.wrap (8 * (d : Int) + (c : Int)) = (p : Int) := by rw [IntWalk.i64_in _ (by omega)]; omega
          have p3 : IntKind.i64.wrap ((n : Int) + 2) = (n : Int) + 2 := IntWalk.i64_in _ (by omega)
          have m0 : 0 ≤ (v : Int) % ((n : Int) + 2) := Int.emod_nonneg _ (by omega)
          have m1 : (v : Int) % ((n : Int) + 2) < (n : Int) + 2 := Int.emod_lt_of_pos _ (by omega)
          have p4 : (v : Int).tmod ((n : Int) + 2) = (v : Int) % ((n : Int) + 2) := Int.tmod_eq_emod_of_nonneg (by omega)
          have p5 : IntKind.i64.wrap ((v : Int) % ((n : Int) + 2)) = (v : Int) % ((n : Int) + 2) := IntWalk.i64_in _ (by omega)
          have p6 : IntKind.i64.wrap ((v : Int) % ((n : Int) + 2) - 1) = (v : Int) % ((n : Int) + 2) - 1 := IntWalk.i64_in _ (by omega)
          have p7 : ((n : Int) + 2 == 0) = false := by simp; omega
          have p10 : IntKind.i64.wrap (v : Int) = (v : Int) := IntWalk.i64_in _ (by omega)
          have p9 : (p : Int) < 32 := by omega
          have p8 : ¬ ((n : Int) + 2 = 0) := by omega
          have HP := Lib.hid hp
          clear hp
          go_wp2_with fail
          refine wp_region_held_drew (S := fun w' => w'.cell? ⟨w.heap.size, 3 + p, none⟩ = some (.int .u8 v) ∧ w'.cell? ⟨w.heap.size + 1 + 1, 0, none⟩ = some (.int .i64 n)) (by kernel_rfl) ⟨hcx, hc0⟩ (fun hHeld => ?_)
          refine wpAnyH_take (i := 0) (oi := { dst := some 32, op := Op.move (Operand.tmp 6), type := 29, pos := "ref.go:233", after := #[], guard := none }) (v := ?_) rfl (by kernel_rfl) (by kernel_rfl) (by kernel_rfl) (fun _ _ _ h => h) (Or.inl ⟨by rfl, ?_⟩) (by assumption) ?_
          rotate_left
          · ((intro w hSw; (try dsimp only at hSw); go_simp); try with_reducible rfl)
          (try simp only [Act.put, List.setIfInBounds_toArray, List.set_cons_zero, List.set_cons_succ])
          refine wpAnyH_take (i := 1) (oi := { dst := some 33, op := Op.move (Operand.tmp 5), type := 3, pos := "ref.go:233", after := #[], guard := none }) (v := ?_) rfl (by kernel_rfl) (by kernel_rfl) (by kernel_rfl) (fun _ _ _ h => h) (Or.inl ⟨by rfl, ?_⟩) (by assumption) ?_
          rotate_left
          · ((intro w hSw; (try dsimp only at hSw); go_simp); try with_reducible rfl)
          (try simp only [Act.put, List.setIfInBounds_toArray, List.set_cons_zero, List.set_cons_succ])
          refine wpAnyH_take (i := 2) (oi := { dst := some 34, op := Op.binOp BinOp.mul 3 (Operand.const (Value.int IntKind.i64 8)) (Operand.tmp 33) 3, type := 3, pos := "ref.go:233", after := #[{ on := 1, ground := Ground.data }], guard := none }) (v := ?_) rfl (by kernel_rfl) (by kernel_rfl) (by kernel_rfl) (fun _ _ _ h => h) (Or.inl ⟨by rfl, ?_⟩) (by assumption) ?_
          rotate_left
          · ((intro w hSw; (try dsimp only at hSw); go_simp); try with_reducible rfl)
          (try simp only [Act.put, List.setIfInBounds_toArray, List.set_cons_zero, List.set_cons_succ])
          refine wpAnyH_take (i := 3) (oi := { dst := some 35, op := Op.move (Operand.tmp 7), type := 3, pos := "ref.go:233", after := #[], guard := none }) (v := ?_) rfl (by kernel_rfl) (by kernel_rfl) (by kernel_rfl) (fun _ _ _ h => h) (Or.inl ⟨by rfl, ?_⟩) (by assumption) ?_
          rotate_left
          · ((intro w hSw; (try dsimp only at hSw); go_simp); try with_reducible rfl)
          (try simp only [Act.put, List.setIfInBounds_toArray, List.set_cons_zero, List.set_cons_succ])
          refine wpAnyH_take (i := 4) (oi := { dst := some 36, op := Op.binOp BinOp.add 3 (Operand.tmp 34) (Operand.tmp 35) 3, type := 3, pos := "ref.go:233", after := #[{ on := 2, ground := Ground.data }, { on := 3, ground := Ground.data }], guard := none }) (v := ?_) rfl (by kernel_rfl) (by kernel_rfl) (by kernel_rfl) (fun _ _ _ h => h) (Or.inl ⟨by rfl, ?_⟩) (by assumption) ?_
          rotate_left
          · ((intro w hSw; (try dsimp only at hSw); go_simp); try with_reducible rfl)
          (try simp only [Act.put, List.setIfInBounds_toArray, List.set_cons_zero, List.set_cons_succ])
          refine wpAnyH_take (i := 5) (oi := { dst := some 37, op := Op.fieldAddr 24 (Operand.tmp 1) 3, type := 0, pos := "ref.go:233", after := #[], guard := none }) (v := ?_) rfl (by kernel_rfl) (by kernel_rfl) (by kernel_rfl) (fun _ _ _ h => h) (Or.inl ⟨by rfl, ?_⟩) (by assumption) ?_
          rotate_left
          · ((intro w hSw; (try dsimp only at hSw); go_simp); try with_reducible rfl)
          (try simp only [Act.put, List.setIfInBounds_toArray, List.set_cons_zero, List.set_cons_succ])
          refine wpAnyH_take (i := 6) (oi := { dst := some 38, op := Op.indexAddr 22 (Operand.tmp 37) (Operand.tmp 36), type := 0, pos := "ref.go:233", after := #[{ on := 5, ground := Ground.data }, { on := 4, ground := Ground.data }], guard := none }) (v := ?_) rfl (by kernel_rfl) (by kernel_rfl) (by kernel_rfl) (fun _ _ _ h => h) (Or.inl ⟨by rfl, ?_⟩) (by assumption) ?_
          rotate_left
          · ((intro w hSw; (try dsimp only at hSw); go_simp); try with_reducible rfl)
          (try simp only [Act.put, List.setIfInBounds_toArray, List.set_cons_zero, List.set_cons_succ])
          refine wpAnyH_take (i := 7) (oi := { dst := some 39, op := Op.load 5 (Operand.tmp 38), type := 5, pos := "ref.go:233", after := #[{ on := 6, ground := Ground.data }], guard := none }) (v := ?_) rfl (by kernel_rfl) (by kernel_rfl) (by kernel_rfl) (fun _ _ _ h => h) (Or.inl ⟨by rfl, ?_⟩) (by assumption) ?_
          rotate_left
          · ((intro w hSw; (try dsimp only at hSw); go_simp); try with_reducible rfl)
          (try simp only [Act.put, List.setIfInBounds_toArray, List.set_cons_zero, List.set_cons_succ])
          refine wpAnyH_take (i := 8) (oi := { dst := some 40, op := Op.convert 5 3 (Operand.tmp 39), type := 3, pos := "ref.go:233", after := #[{ on := 7, ground := Ground.data }], guard := none }) (v := ?_) rfl (by kernel_rfl) (by kernel_rfl) (by kernel_rfl) (fun _ _ _ h => h) (Or.inl ⟨by rfl, ?_⟩) (by assumption) ?_
          rotate_left
          · ((intro w hSw; (try dsimp only at hSw); go_simp); try with_reducible rfl)
          (try simp only [Act.put, List.setIfInBounds_toArray, List.set_cons_zero, List.set_cons_succ])
          refine wpAnyH_take (i := 9) (oi := { dst := some 41, op := Op.fieldAddr 31 (Operand.tmp 3) 0, type := 0, pos := "ref.go:233", after := #[], guard := none }) (v := ?_) rfl (by kernel_rfl) (by kernel_rfl) (by kernel_rfl) (fun _ _ _ h => h) (Or.inl ⟨by rfl, ?_⟩) (by assumption) ?_
          rotate_left
          · ((intro w hSw; (try dsimp only at hSw); go_simp); try with_reducible rfl)
          (try simp only [Act.put, List.setIfInBounds_toArray, List.set_cons_zero, List.set_cons_succ])
          refine wpAnyH_take (i := 10) (oi := { dst := some 42, op := Op.load 3 (Operand.tmp 41), type := 3, pos := "ref.go:233", after := #[{ on := 9, ground := Ground.data }], guard := none }) (v := ?_) rfl (by kernel_rfl) (by kernel_rfl) (by kernel_rfl) (fun _ _ _ h => h) (Or.inl ⟨by rfl, ?_⟩) (by assumption) ?_
          rotate_left
          · ((intro w hSw; (try dsimp only at hSw); go_simp); try with_reducible rfl)
          (try simp only [Act.put, List.setIfInBounds_toArray, List.set_cons_zero, List.set_cons_succ])
          refine wpAnyH_take (i := 11) (oi := { dst := some 43, op := Op.binOp BinOp.add 3 (Operand.tmp 42) (Operand.const (Value.int IntKind.i64 2)) 3, type := 3, pos := "ref.go:233", after := #[{ on := 10, ground := Ground.data }], guard := none }) (v := ?_) rfl (by kernel_rfl) (by kernel_rfl) (by kernel_rfl) (fun _ _ _ h => h) (Or.inl ⟨by rfl, ?_⟩) (by assumption) ?_
          rotate_left
          · ((intro w hSw; (try dsimp only at hSw); go_simp); try with_reducible rfl)
          (try simp only [Act.put, List.setIfInBounds_toArray, List.set_cons_zero, List.set_cons_succ])
          refine wpAnyH_take (i := 12) (oi := { dst := some 44, op := Op.binOp BinOp.rem 3 (Operand.tmp 40) (Operand.tmp 43) 3, type := 3, pos := "ref.go:233", after := #[{ on := 8, ground := Ground.data }, { on := 11, ground := Ground.data }], guard := none }) (v := ?_) rfl (by kernel_rfl) (by kernel_rfl) (by kernel_rfl) (fun _ _ _ h => h) (Or.inl ⟨by rfl, ?_⟩) (by assumption) ?_
          rotate_left
          · ((intro w hSw; (try dsimp only at hSw); go_simp); try with_reducible rfl)
          (try simp only [Act.put, List.setIfInBounds_toArray, List.set_cons_zero, List.set_cons_succ])
          refine wpAnyH_take (i := 13) (oi := { dst := some 45, op := Op.binOp BinOp.sub 3 (Operand.tmp 44) (Operand.const (Value.int IntKind.i64 1)) 3, type := 3, pos := "ref.go:233", after := #[{ on := 12, ground := Ground.data }], guard := none }) (v := ?_) rfl (by kernel_rfl) (by kernel_rfl) (by kernel_rfl) (fun _ _ _ h => h) (Or.inl ⟨by rfl, ?_⟩) (by assumption) ?_
          rotate_left
          · ((intro w hSw; (try dsimp only at hSw); go_simp); try with_reducible rfl)
          (try simp only [Act.put, List.setIfInBounds_toArray, List.set_cons_zero, List.set_cons_succ])
          refine wpAnyH_ready (rs := [14]) (by kernel_rfl) (by simp) ?_
          refine AllReadyH.cons (o := { dst := some 46, op := Op.buildSlice 29 1 #[(0, Operand.tmp 45)], type := 29, pos := "ref.go:233", after := #[{ on := 13, ground := Ground.data }], guard := none }) rfl (fun K hK => ?_) AllReadyH.nil
          go_simp
          refine hK.out _ _ ⟨cell_alloc_keep hHeld.1 _, cell_alloc_keep hHeld.2 _⟩ (fun hS3 => ?_)
          clear hK K
          (try simp only [Act.put, List.setIfInBounds_toArray, List.set_cons_zero, List.set_cons_succ])
          refine wpAnyH_ready (rs := [15]) (by kernel_rfl) (by simp) ?_
          refine AllReadyH.cons (o := { dst := some 47, op := Op.call { callee := Callee.builtin Builtin.append, args := #[Operand.tmp 32, Operand.tmp 46], argTypes := #[29, 29] }, type := 29, pos := "ref.go:233", after := #[{ on := 0, ground := Ground.data }, { on := 14, ground := Ground.data }], guard := none }) rfl (fun K hK => ?_) AllReadyH.nil
          have hll : ((List.range c).map fun c => wEnt n (nx (8 * d + c))).length = c := by simp
          have hAB : Below wr.heap.size wr (wr.alloc (.cells #[.int .i64 ((v : Int) % ((n : Int) + 2) - 1)] 3)).drew := ((Below.refl _ _).alloc (Nat.le_refl _) _).drew
          have hownA : OwnInts w4.heap.size (wr.alloc (.cells #[.int .i64 ((v : Int) % ((n : Int) + 2) - 1)] 3)).drew u6 ((List.range c).map fun c => wEnt n (nx (8 * d + c))) := hown.alters (S := fun _ => False) (Alters.of_below hAB) (fun _ h => h.elim)
          refine step_append_at rfl (.tmp 32) (.tmp 46) rfl w4.heap.size u6 _ rfl hownA (by rw [hll]; omega) (Nat.le_trans hbi.size hAB.size) ⟨wr.heap.size, 0, none⟩ ((v : Int) % ((n : Int) + 2) - 1) rfl (cell_new_at _ _ _ _ _ _ rfl rfl) ?_
          intro g cap w6 hown6 hg6 hat6
          rw [hll] at hown6 ⊢
          have hB6 : Below w4.heap.size w4 w6 := push_below hbi hAB hbi.size hown hg6
          have hx4 : w4.cell? ⟨w.heap.size, 3 + p, none⟩ = some (.int .u8 v) := (hbi.cell (p := ⟨w.heap.size, 3 + p, none⟩) (by show w.heap.size < w4.heap.size; omega)).symm.trans hcx
          have hn4 := hb.cell.1
          refine hK.out _ _ ⟨cell_keep hB6 hx4, cell_keep hB6 hn4⟩ (fun _ => ?_)
          clear hK K
          (try simp only [Act.put, List.setIfInBounds_toArray, List.set_cons_zero, List.set_cons_succ])
          refine wpAnyH_take (i := 16) (oi := { dst := some 6, op := Op.assign (Operand.tmp 47), type := 29, pos := "ref.go:233", after := #[{ on := 15, ground := Ground.data }, { on := 15, ground := Ground.chain }, { on := 0, ground := Ground.phase }, { on := 1, ground := Ground.phase }, { on := 2, ground := Ground.phase }, { on := 3, ground := Ground.phase }, { on := 4, ground := Ground.phase }, { on := 5, ground := Ground.phase }, { on := 6, ground := Ground.phase }, { on := 7, ground := Ground.phase }, { on := 8, ground := Ground.phase }, { on := 9, ground := Ground.phase }, { on := 10, ground := Ground.phase }, { on := 11, ground := Ground.phase }, { on := 12, ground := Ground.phase }, { on := 13, ground := Ground.phase }, { on := 14, ground := Ground.phase }, { on := 15, ground := Ground.phase }], guard := none }) (v := ?_) rfl (by kernel_rfl) (by kernel_rfl) (by kernel_rfl) (fun _ _ _ h => h) (Or.inl ⟨by rfl, ?_⟩) (by assumption) ?_
          rotate_left
          · ((intro w hSw; (try dsimp only at hSw); go_simp); try with_reducible rfl)
          (try simp only [Act.put, List.setIfInBounds_toArray, List.set_cons_zero, List.set_cons_succ])
          refine wpAnyH_done (by kernel_rfl) ?_ _
          have hcN := cell_keep hB6 hn4
          obtain ⟨hcG, hfG⟩ := OwnInts.cellAt hown6 (j := c) (by simp)
          have hLc : ((List.range c).map (fun c => wEnt n (nx (8 * d + c))) ++ [(v : Int) % ((n : Int) + 2) - 1])[c]?.getD 0 = (v : Int) % ((n : Int) + 2) - 1 := by
            rw [List.getElem?_append_right (by simp)]; simp
          rw [hLc] at hcG
          have HML : (List.range (c + 1)).map (fun c => wEnt n (nx (8 * d + c))) = (List.range c).map (fun c => wEnt n (nx (8 * d + c))) ++ [wEnt n v] := by
            rw [List.range_succ, List.map_append, List.map_singleton, HENT.out]
          have HE := wEnt_int n v
          have HM := Lib.hid HML
          have HE := Lib.hid HE
          have HO6 := Lib.hid hown6
          clear HML hLc hHeld hS3 hown6 hg6 hat6 hownA hAB hcx hown hc0 hbB p1 p2 p3 p4 p5 p6 p7 p8 p10
          generalize (v : Int) % ((n : Int) + 2) - 1 = x at *
          by_cases hxn : x = n
          · have t1 : (x == (n : Int)) = true := by simpa using hxn
            have t2 : decide (x = (n : Int)) = true := by simpa using hxn
            have HX := Lib.hid hxn
            clear hxn
            go_wp2_with fail
            go_quiet (fail)
            go_wp2
            have hgl := (World.ownsRow.lt HO6.out g rfl).1
            have hW : wEnt n v = -1 := by rw [HE.out, if_pos HX.out]
            have hset : ((List.range c).map (fun c => wEnt n (nx (8 * d + c))) ++ [x]).set c (-1) = (List.range (c + 1)).map (fun c => wEnt n (nx (8 * d + c))) := by
              rw [HM.out, hW, List.set_append_right _ _ (by simp)]; simp
            have hres : ∀ q, OwnInts w4.heap.size ((w6.drewN q).setCell ⟨g, c, none⟩ (.int .i64 (-1))) (.slice (some ⟨g, 0, none⟩) (c + 1) cap) ((List.range (c + 1)).map (fun c => wEnt n (nx (8 * d + c)))) := fun q => by
              rw [← hset]
              exact (OwnInts.alters HO6.out (S := fun _ => False) (Alters.of_below (below_drewN_ (Below.refl _ _) q)) (fun _ h => h.elim)).set c (-1)
            go_roundw
            case rel => exact ⟨c + 1, by omega, by simp, hres _, Below.setCell (below_drewN_ hB6 _) hgl _⟩
            case measure => simp [intOf]; omega
          · have t1 : (x == (n : Int)) = false := by simpa using hxn
            have t2 : decide (x = (n : Int)) = false := by simpa using hxn
            have HX := Lib.hid hxn
            clear hxn
            go_wp2_with fail
            go_quiet (fail)
            go_wp2
            have hW : wEnt n v = x := by rw [HE.out, if_neg HX.out]
            have hres : ∀ q, OwnInts w4.heap.size (w6.drewN q) (.slice (some ⟨g, 0, none⟩) (c + 1) cap) ((List.range (c + 1)).map (fun c => wEnt n (nx (8 * d + c)))) := fun q => by
              rw [HM.out, hW]
              exact OwnInts.alters HO6.out (S := fun _ => False) (Alters.of_below (below_drewN_ (Below.refl _ _) q)) (fun _ h => h.elim)
            go_roundw
            case rel => exact ⟨c + 1, by omega, by simp, hres _, below_drewN_ hB6 _⟩
            case measure => simp [intOf]; omega
        · obtain rfl : c = n := by omega
          change OwnInts w4.heap.size wr u6 (wRow c nx d) at hown
          have hrl : (wRow c nx d).length = c := by simp [wRow]
          obtain ⟨o6, cp6, rfl, _⟩ := OwnInts.places hown
          rw [hrl] at hown ⊢
          have hbwx : Below w.heap.size w wr := hbw.trans (hbi.mono hbw.size)
          have hzx := Lib.hid ((hbi.block _ (by omega)).trans hzr.out)
          have hxx := Lib.hid ((hbi.block _ (by omega)).trans hxr.out)
          have hGot : ∀ k, some k = ot.ownBlock → ¬ some k = (Value.slice o6 c cp6).ownBlock := fun k e e2 => by
            have h1 := (hb.own_ot e).2
            have h2 := (World.ownsRow.lt hown k e2.symm).1
            omega
          have HAP := Lib.hid (hapr.out.snoc (v := Value.slice o6 c cp6) (fun u hu k e e2 => by
            have h1 := (hb.own_vs hu e2).2
            have h2 := (World.ownsRow.lt hown k e.symm).1
            omega))
          have hown0 : OwnInts w.heap.size wr (.slice o6 c cp6) (wRow c nx d) := OwnInts.mono hown hbw.size
          have hlenN : ((List.range d).map (wRow c nx)).length = d := by simp
          have HLN := Lib.hid hlenN
          have HRO := Lib.hid (by have := (hbB.below ((Below.refl _ wr).alloc (Nat.le_refl _) (.cells #[.slice o6 c cp6] 29))).rows.outer; rwa [hlenN] at this : (wr.alloc (.cells #[.slice o6 c cp6] 29)).ownsRow w.heap.size 29 1 on d vs)
          have HOW := Lib.hid hown0
          have HBX := Lib.hid hbB
          obtain ⟨_, hcx1, _, _, _⟩ := hbB.cell
          obtain ⟨j0, hj, hy0, hy1, hy2⟩ := info_parts info_row
          have hwr := hbi.size
          clear hlenN hown hown0 hb hrl hbi hown5
          go_upto_region 14 with (at_builtin; go_loud (refine wpList_append_own_at _ rfl (.tmp 59) (.tmp 61) 28 rfl w.heap.size 29 j0 (.slice none 0 0) 1 24 Tryd.underlying28 hj hy0 hy1 hy2 rfl (by decide) on d vs rfl HRO.out ⟨wr.heap.size, 0, none⟩ 1 1 [.slice o6 c cp6] rfl rfl (cell_one_new _ _ _) (by simp [Value.oneCell']) (by unfold maxLen; omega) (by omega) (by have := hbwx.size; simp; omega) ?_; intro v6 w6 hown6 hgrow6 _ hat6; obtain ⟨g6, cap6, rfl⟩ := ownsRow_succ hown6; have hg6 := HBX.out.grown_on hgrow6; have hc6 : w6.cell? ⟨w.heap.size + 1 + 1, 1, none⟩ = some on := by { unfold World.cell?; rw [hg6]; rfl }; have hf6 : w6.frozen? ⟨w.heap.size + 1 + 1, 1, none⟩ = false := by { unfold World.frozen?; rw [hg6]; simp }; clear hg6))
          obtain ⟨hb7, hal7⟩ := HBX.out.next HOW.out hGot (by rw [HLN.out]; exact hown6) hgrow6
          have hbw7 : Below w.heap.size w _ := hbwx.trans (hal7.below hbwx.size (fun k hk => by
            rcases hk with rfl | hk
            · omega
            · exact (HBX.out.own_on hk).1))
          have hz7 := Lib.hid ((hal7.block _ (Array.getElem?_eq_some_iff.1 hzx.out).1 (by
            rintro (h | h)
            · omega
            · exact own_type HBX.out.rows.outer hzx.out (by decide) h)).trans hzx.out)
          have hx7 := Lib.hid ((hal7.block _ (Array.getElem?_eq_some_iff.1 hxx.out).1 (by
            rintro (h | h)
            · omega
            · exact own_type HBX.out.rows.outer hxx.out (by decide) h)).trans hxx.out)
          have hmr : (List.range (d + 1)).map (wRow c nx) = (List.range d).map (wRow c nx) ++ [wRow c nx d] := by simp [List.range_succ]
          rw [← hmr] at hb7
          obtain ⟨_, _, hcx2, _, _⟩ := hb7.cell
          have hlenT : (wIds d).length = d := by simp [wIds]
          have HTO := Lib.hid (by have := (hb7.below ((Below.refl _ _).alloc (Nat.le_refl _) (.cells #[.int .i64 (d : Int)] 3))).turn; unfold OwnInts at this; rwa [hlenT] at this : (World.alloc _ (.cells #[.int .i64 (d : Int)] 3)).ownsRow w.heap.size 3 1 ot d ((wIds d).map (Value.int .i64)))
          have HB7 := Lib.hid hb7
          clear hmr hal7 hown6 hgrow6 hat6 hc6 hf6 hb7 hlenT HOW HBX HRO hzx hxx hGot hcx1 hbB hc0
          generalize w6.setCell _ _ = w7 at *
          go_wp2_with (at_builtin; go_loud (refine wpList_append_own_at _ rfl (.tmp 65) (.tmp 67) 29 rfl w.heap.size 3 i0 (.int .i64 0) 1 8 Tryd.underlying29 hi hz0 hz1 hz2 rfl (by decide) ot d _ rfl HTO.out ⟨w7.heap.size, 0, none⟩ 1 1 [.int .i64 (d : Int)] rfl rfl (cell_one_new _ _ _) (by simp [Value.oneCell']) (by unfold maxLen; omega) (by omega) (by have := hbw7.size; simp; omega) ?_; intro v8 w8 hown8 hgrow8 _ hat8; obtain ⟨g8, cap8, rfl⟩ := ownsRow_succ hown8; have hg8 := HB7.out.grown_ot hgrow8; have hc8 : w8.cell? ⟨w.heap.size + 1 + 1, 2, none⟩ = some ot := by { unfold World.cell?; rw [hg8]; rfl }; have hf8 : w8.frozen? ⟨w.heap.size + 1 + 1, 2, none⟩ = false := by { unfold World.frozen?; rw [hg8]; simp }; clear hg8))
          have hown8' : OwnInts w.heap.size w8 (.slice (some ⟨g8, 0, none⟩) (d + 1) cap8) (wIds (d + 1)) := by
            have e : wIds (d + 1) = wIds d ++ [(d : Int)] := by simp [wIds, List.range_succ]
            unfold OwnInts
            rw [e]
            simpa [wIds] using hown8
          obtain ⟨hb8, hal8⟩ := HB7.out.turns hown8' hgrow8 hat8
          have hbw8 : Below w.heap.size w _ := hbw7.trans (hal8.below hbw7.size (fun k hk => by
            rcases hk with rfl | hk
            · omega
            · exact (HB7.out.own_ot hk).1))
          have hz8 := Lib.hid ((hal8.block _ (Array.getElem?_eq_some_iff.1 hz7.out).1 (by
            rintro (h | h)
            · omega
            · exact own_type HB7.out.turn hz7.out (by decide) h)).trans hz7.out)
          have hx8 := Lib.hid ((hal8.block _ (Array.getElem?_eq_some_iff.1 hx7.out).1 (by
            rintro (h | h)
            · omega
            · exact own_type HB7.out.turn hx7.out (by decide) h)).trans hx7.out)
          clear hown8 hown8' hgrow8 hat8 hal8
          go_roundw
          case rel => exact ⟨d + 1, _, _, _, by omega, by simp, hb8, hbw8, hz8, hx8, HAP⟩
          case measure => simp [intOf]; omega
    · obtain rfl : d = m := by omega
      go_wp2_with fail
      clear hbs
      go_loopw [8] (fun i wr => ∃ (k : Nat) (on ot : Value) (vs : List Value), k ≤ 2 ∧ i = .int .i64 (2 * (k : Int)) ∧ Bld w.heap.size (w.heap.size + 1 + 1) n wr on ot ((List.range d).map (wRow n nx)) (wTurnTo d x2 k) vs ∧ Below w.heap.size w wr ∧ Hid (wr.heap[w.heap.size + 1]? = some (.cells #[.int .i64 0, .slice none 0 0, .slice none 0 0] 31 (0, 0))) ∧ Hid (wr.heap[w.heap.size]? = some (.cells xs 24 (0, 0))) ∧ Hid (Apart vs))
        (fun i _ => d + 2 - (intOf i).toNat)
      case atStart => exact ⟨0, _, _, _, by omega, rfl, hb, hbw, hzr, hxr, hapr⟩
      case round =>
        clear hb hbw hzr hxr hapr
        obtain ⟨k, on, ot, vs, hk2, rfl, hb, hbw, hzr, hxr, hapr⟩ := hrel
        generalize wr = w4 at *
        by_cases hgo : 2 * k + 1 < d
        · have hk01 : k = 0 ∨ k = 1 := by omega
          have hc2 : w4.cell? ⟨w.heap.size, 2, none⟩ = some (.int .u8 x2) := by
            unfold World.cell?
            rw [hxr.out]
            exact E2.out
          obtain ⟨_, _, hct, _, _⟩ := hb.cell
          rcases hk01 with rfl | rfl
          · have hbit : (bits BinOp.and IntKind.u8 (x2 : Int) 1 == 1) = decide (x2 % 2 = 1) := bit_of x2 b2
            have hsh : ((x2 >>> 0) % 2 = 1) ↔ x2 % 2 = 1 := by simp [Nat.shiftRight_eq_div_pow]
            by_cases hb1 : x2 % 2 = 1
            · have t1 : (bits BinOp.and IntKind.u8 (x2 : Int) 1 == 1) = true := by rw [hbit]; simpa using hb1
              have HT := Lib.hid (by show wSwap d x2 (2 * 0) (wTurnTo d x2 0) = _; unfold wSwap; rw [if_pos ⟨by omega, hsh.2 hb1⟩] : wTurnTo d x2 (0 + 1) = ((wTurnTo d x2 0).set (2 * 0) (((2 * 0 : Nat) : Int) + 1)).set (2 * 0 + 1) ((2 * 0 : Nat) : Int))
              have hl := wTurnTo_len d x2 0
              rcases hb.turn.form with ⟨rfl, h0⟩ | ⟨g, cap, rfl, hg1, hg2⟩
              · rw [h0] at hl; simp at hl; omega
              have hgB := own_type hb.turn hb.box (by decide)
              have hgz := own_type hb.turn hzr.out (by decide)
              have hgx := own_type hb.turn hxr.out (by decide)
              simp only [Value.ownBlock, Option.some.injEq] at hgB hgz hgx
              have hgB' : ¬ g = w.heap.size + 1 + 1 := fun e => hgB e.symm
              obtain ⟨ca, fa⟩ := hb.turn.cellAt (j := 0) (by omega)
              obtain ⟨cb, fb⟩ := hb.turn.cellAt (j := 1) (by omega)
              generalize (wTurnTo d x2 0)[0]?.getD 0 = va at ca
              generalize (wTurnTo d x2 0)[1]?.getD 0 = vb at cb
              have HBB := Lib.hid ((hb.setTurn 0 1).setTurn 1 0)
              have HL := Lib.hid hl
              have hal : Alters (fun k => k = g) w4 ((w4.setCell ⟨g, 0, none⟩ (.int .i64 1)).setCell ⟨g, 1, none⟩ (.int .i64 0)) := (alters_cell _ _ _ _).trans (alters_cell _ _ _ _)
              have hbw' := hbw.trans (hal.below hbw.size (fun k hk => by omega))
              have hz' := Lib.hid ((hal.block _ (Array.getElem?_eq_some_iff.1 hzr.out).1 hgz).trans hzr.out)
              have hx' := Lib.hid ((hal.block _ (Array.getElem?_eq_some_iff.1 hxr.out).1 hgx).trans hxr.out)
              rw [hl] at hct
              rw [hl] at HBB
              clear hl hbit hsh hb1 hb
              go_wp2
              go_roundw
              case rel => exact ⟨0 + 1, _, _, _, by omega, by simp, by rw [HT.out]; exact HBB.out, hbw', hz', hx', hapr⟩
              case measure => first | (simp [intOf]; done) | (simp [intOf]; omega)
            · have t1 : (bits BinOp.and IntKind.u8 (x2 : Int) 1 == 1) = false := by rw [hbit]; simpa using hb1
              have HT := Lib.hid (by show wSwap d x2 (2 * 0) (wTurnTo d x2 0) = _; unfold wSwap; rw [if_neg (fun h => hb1 (hsh.1 h.2))] : wTurnTo d x2 (0 + 1) = wTurnTo d x2 0)
              clear hbit hsh hb1
              go_wp2
              go_roundw
              case rel => exact ⟨0 + 1, _, _, _, by omega, by simp, by rw [HT.out]; exact hb, hbw, hzr, hxr, hapr⟩
              case measure => first | (simp [intOf]; done) | (simp [intOf]; omega)
          · have hbit : (bits BinOp.and IntKind.u8 ((x2 : Int) / 4) 1 == 1) = decide (x2 / 4 % 2 = 1) := (by have := bit_of (x2 / 4) (by omega); rw [Int.natCast_ediv] at this; exact this)
            have hsh : ((x2 >>> 2) % 2 = 1) ↔ x2 / 4 % 2 = 1 := by simp [Nat.shiftRight_eq_div_pow]
            by_cases hb1 : x2 / 4 % 2 = 1
            · have t1 : (bits BinOp.and IntKind.u8 ((x2 : Int) / 4) 1 == 1) = true := by rw [hbit]; simpa using hb1
              have HT := Lib.hid (by show wSwap d x2 (2 * 1) (wTurnTo d x2 1) = _; unfold wSwap; rw [if_pos ⟨by omega, hsh.2 hb1⟩] : wTurnTo d x2 (1 + 1) = ((wTurnTo d x2 1).set (2 * 1) (((2 * 1 : Nat) : Int) + 1)).set (2 * 1 + 1) ((2 * 1 : Nat) : Int))
              have hl := wTurnTo_len d x2 1
              rcases hb.turn.form with ⟨rfl, h0⟩ | ⟨g, cap, rfl, hg1, hg2⟩
              · rw [h0] at hl; simp at hl; omega
              have hgB := own_type hb.turn hb.box (by decide)
              have hgz := own_type hb.turn hzr.out (by decide)
              have hgx := own_type hb.turn hxr.out (by decide)
              simp only [Value.ownBlock, Option.some.injEq] at hgB hgz hgx
              have hgB' : ¬ g = w.heap.size + 1 + 1 := fun e => hgB e.symm
              obtain ⟨ca, fa⟩ := hb.turn.cellAt (j := 2) (by omega)
              obtain ⟨cb, fb⟩ := hb.turn.cellAt (j := 3) (by omega)
              generalize (wTurnTo d x2 1)[2]?.getD 0 = va at ca
              generalize (wTurnTo d x2 1)[3]?.getD 0 = vb at cb
              have HBB := Lib.hid ((hb.setTurn 2 3).setTurn 3 2)
              have HL := Lib.hid hl
              have hal : Alters (fun k => k = g) w4 ((w4.setCell ⟨g, 2, none⟩ (.int .i64 3)).setCell ⟨g, 3, none⟩ (.int .i64 2)) := (alters_cell _ _ _ _).trans (alters_cell _ _ _ _)
              have hbw' := hbw.trans (hal.below hbw.size (fun k hk => by omega))
              have hz' := Lib.hid ((hal.block _ (Array.getElem?_eq_some_iff.1 hzr.out).1 hgz).trans hzr.out)
              have hx' := Lib.hid ((hal.block _ (Array.getElem?_eq_some_iff.1 hxr.out).1 hgx).trans hxr.out)
              rw [hl] at hct
              rw [hl] at HBB
              clear hl hbit hsh hb1 hb
              go_wp2
              go_roundw
              case rel => exact ⟨1 + 1, _, _, _, by omega, by simp, by rw [HT.out]; exact HBB.out, hbw', hz', hx', hapr⟩
              case measure => first | (simp [intOf]; done) | (simp [intOf]; omega)
            · have t1 : (bits BinOp.and IntKind.u8 ((x2 : Int) / 4) 1 == 1) = false := by rw [hbit]; simpa using hb1
              have HT := Lib.hid (by show wSwap d x2 (2 * 1) (wTurnTo d x2 1) = _; unfold wSwap; rw [if_neg (fun h => hb1 (hsh.1 h.2))] : wTurnTo d x2 (1 + 1) = wTurnTo d x2 1)
              clear hbit hsh hb1
              go_wp2
              go_roundw
              case rel => exact ⟨1 + 1, _, _, _, by omega, by simp, by rw [HT.out]; exact hb, hbw, hzr, hxr, hapr⟩
              case measure => first | (simp [intOf]; done) | (simp [intOf]; omega)
        · have hfin := wTurnTo_done d x2 k hk2 (by omega)
          have hgo' : decide ((2 : Int) * (k : Int) + 1 < (d : Int)) = false := by simp; omega
          rw [hfin] at hb
          have hbl := hb.lt
          have l1 : ((List.range d).map (wRow n nx)).length = d := by simp
          have l2 : (wTurn d x2).length = d := by rw [← hfin]; exact wTurnTo_len _ _ _
          obtain ⟨an, cn, at_, ct, rfl, rfl, hRw, hTu⟩ := hb.held
          obtain ⟨q0, q1, q2, _, _⟩ := hb.cell
          have hz := hzr.out
          have z0 : w4.cell? ⟨w.heap.size + 1, 0, none⟩ = some (.int .i64 0) := by unfold World.cell?; rw [hz]; rfl
          have z1 : w4.cell? ⟨w.heap.size + 1, 1, none⟩ = some (.slice none 0 0) := by unfold World.cell?; rw [hz]; rfl
          have z2 : w4.cell? ⟨w.heap.size + 1, 2, none⟩ = some (.slice none 0 0) := by unfold World.cell?; rw [hz]; rfl
          have f0 : w4.frozen? ⟨w.heap.size + 1, 0, none⟩ = false := by unfold World.frozen?; rw [hz]; simp
          have f1 : w4.frozen? ⟨w.heap.size + 1, 1, none⟩ = false := by unfold World.frozen?; rw [hz]; simp
          have f2 : w4.frozen? ⟨w.heap.size + 1, 2, none⟩ = false := by unfold World.frozen?; rw [hz]; simp
          rw [l1] at q1
          rw [l2] at q2
          have hal : Alters (fun k => k = w.heap.size + 1) w4 (((w4.setCell ⟨w.heap.size + 1, 0, none⟩ (.int .i64 n)).setCell ⟨w.heap.size + 1, 1, none⟩ (.slice an d cn)).setCell ⟨w.heap.size + 1, 2, none⟩ (.slice at_ d ct)) :=
            ⟨rfl, rfl, rfl, by simp [World.setCell], fun k _ hk => ((Below.heap_setCell _ _ _ _ hk).trans (Below.heap_setCell _ _ _ _ hk)).trans (Below.heap_setCell _ _ _ _ hk)⟩
          have hbN := hb.alters hal (by omega) (fun k hk => by rw [hk]; exact own_type hb.rows.outer hz (by decide)) (fun k hk => by rw [hk]; exact own_type hb.turn hz (by decide)) (fun k hk v hv => by
            rw [hk]
            obtain ⟨i, hi⟩ := List.getElem?_of_mem hv
            exact own_type (hb.rows.own i v hi) hz (by decide))
          have hbwN := hbw.trans (hal.below hbw.size (fun k hk => by omega))
          have HBN := Lib.hid hbN
          have HL1 := Lib.hid l1
          have HL2 := Lib.hid l2
          clear hz hb hzr hxr hbN hal hRw hTu l1 l2 hfin hgo
          go_wp2
          refine bodyPost_ret_by (v := .agg #[.int .i64 n, .slice an d cn, .slice at_ d ct]) (by rw [results_cell1 rfl]; go_simp) rfl ?_
          have hBB := HBN.out
          rw [HL1.out, HL2.out] at hBB
          exact ⟨_, _, rfl, ⟨_, hBB.rows, hBB.turn, hapr.out, hBB.apart⟩, hbwN⟩

theorem wild_any (xs : Array Value) (x0 x1 x2 : Nat) (nx : Nat → Nat) (hs : xs.size = 35) (b0 : x0 ≤ 255) (b1 : x1 ≤ 255) (b2 : x2 ≤ 255) (bn : ∀ j, nx j ≤ 255) (e0 : xs[0]? = some (.int .u8 x0)) (e1 : xs[1]? = some (.int .u8 x1)) (e2 : xs[2]? = some (.int .u8 x2)) (en : ∀ j, j < 32 → xs[3 + j]? = some (.int .u8 (nx j))) (w : World) :
    Calls Tryd.prog 12 #[.agg xs] w fun e W' => ∃ an cn at_ ct, e = .returned ((wildS (1 + x0 % 8) (1 + x1 % 4) x2 nx).val an cn at_ ct) ∧ Held W'.heap.size W' an at_ (wildS (1 + x0 % 8) (1 + x1 % 4) x2 nx) ∧ Below w.heap.size w W' := by
  refine (wild_own xs x0 x1 x2 nx hs b0 b1 b2 bn e0 e1 e2 en w).mono fun e W' ⟨on, ot, he, hm, hb⟩ => ?_
  obtain ⟨an, cn, at_, ct, rfl, rfl, hH⟩ := hm.held
  exact ⟨an, cn, at_, ct, he, hH, hb⟩
end Go.Proofs.YtcpjkilnbhfpjaaDoor
