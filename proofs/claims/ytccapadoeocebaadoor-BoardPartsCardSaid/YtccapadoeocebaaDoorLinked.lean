/-
  linked of the law.
-/
import Derived.Test.YtccapadoeocebaaDoorRefNear
import Derived.Test.YtccapadoeocebaaDoorLinkP
namespace Go.Proofs.YtccapadoeocebaaDoor
open Go Go.RowKit Go.Shelf

set_option maxRecDepth 100000 in
set_option maxHeartbeats 4000000 in
theorem linked_any (B : Brd) (hB : B.Ok) (n : Nat) (hn : B.cells = n) (an at_ : Option Addr) (cn ct : Nat) (s : Nat) (hs : s < n) (w : World) (hH : Held w.heap.size w an at_ B) :
    Calls Tryd.prog 31 #[B.val an cn at_ ct, .int .i64 s] w fun e w' => ∃ v L, e = .returned v ∧ OwnInts w.heap.size w' v L ∧ L.length ≤ n ∧ (∀ c : Nat, (c : Int) ∈ L ↔ Linked B n s c) ∧ Below w.heap.size w w' := by
  have hhi := hB.hi
  have hlo := hB.lo
  have hle1 : B.cells ≤ n := by omega
  have hle2 : (n : Int) ≤ B.cells := by omega
  have hn64 : n ≤ 64 := by omega
  have HNN := Lib.hid hn
  have y0 := InBox.new cn ct hH
  have hbw0 : Below w.heap.size w (w.alloc (.cells #[.int .i64 B.cells, .slice an B.next.length cn, .slice at_ B.turn.length ct] 31)) := below_alloc (Below.refl _ _) _
  clear hH hn
  go_enter Tryd.func31, Tryd.ntmps31
  go_wp2_with fail
  have hbs : w.heap.size < (w.alloc (.cells #[.int .i64 B.cells, .slice an B.next.length cn, .slice at_ B.turn.length ct] 31)).heap.size := by rw [World.size_alloc]; omega
  have hsz : (w.alloc (.cells #[.int .i64 B.cells, .slice an B.next.length cn, .slice at_ B.turn.length ct] 31)).heap.size = w.heap.size + 1 := World.size_alloc _ _
  generalize w.alloc (.cells #[.int .i64 B.cells, .slice an B.next.length cn, .slice at_ B.turn.length ct] 31) = w1 at *
  have hown := own_lit w1 s
  have hb2 : Below w1.heap.size w1 (w1.alloc (.cells #[.int .i64 s] 3)) := (Below.refl _ _).alloc (Nat.le_refl _) _
  generalize hb1 : w.heap.size = b1 at *
  generalize w1.alloc (.cells #[.int .i64 s] 3) = w2 at *
  have HB1 := Lib.hid hb1
  have HSZ := Lib.hid hsz
  clear hb1 hsz
  go_loopw [5, 6] (fun o i wr => ∃ (k : Nat) (L : List Int), i = .int .i64 k ∧ k ≤ L.length ∧ Grow B n s k 0 L ∧ OwnInts w1.heap.size wr o L ∧ Below w1.heap.size w1 wr)
    (fun _ i _ => n - (intOf i).toNat)
  case atStart => exact ⟨0, [(s : Int)], rfl, Nat.zero_le _, Grow.start hs, by rw [← HSZ.out]; exact hown, hb2⟩
  case round =>
    clear hown hb2
    obtain ⟨k, L, rfl, hk, hG, ho, hbi⟩ := hrel
    have hlen := hG.len
    obtain ⟨a0, cap0, rfl, hI⟩ := OwnInts.ints ho
    by_cases hkl : k < L.length
    · have t0 : decide ((k : Int) < (L.length : Int)) = true := by simpa using hkl
      go_wp2_with fail
      clear hI
      go_loopw [5, 7] (fun o j wi => ∃ (c : Nat) (M : List Int), j = .int .i64 c ∧ c ≤ n ∧ k < M.length ∧ Grow B n s k c M ∧ OwnInts w1.heap.size wi o M ∧ Below w1.heap.size w1 wi)
        (fun _ j _ => n - (intOf j).toNat)
      case atStart => exact ⟨0, L, rfl, Nat.zero_le _, hkl, hG, ho, hbi⟩
      case round =>
        clear ho hbi
        obtain ⟨c, M, rfl, hc, hkM, hG, ho, hbi⟩ := hrel
        by_cases hcn : c < n
        · have t1 : decide ((c : Int) < B.cells) = true := by simp; omega
          have y := y0.up hbi
          obtain ⟨c0, c1, c2, hH⟩ := id y
          have hM := hG.len
          have hM2 : M.length ≤ 2000 := by omega
          obtain ⟨a5, cap5, rfl, hI5⟩ := OwnInts.ints ho
          by_cases hm : (c : Int) ∈ M
          · have hd : decide ((c : Int) ∈ M) = true := by simpa using hm
            have hhas := has_any M c a5 cap5 _ wr.drew hM2 (hI5.up (Nat.le_refl _) (Below.refl _ wr).drew)
            rw [hd] at hhas
            have HHAS := Lib.hid hhas
            clear hhas
            go_wp2_with fail
            refine wp_region_held_drew (S := fun w' => w'.cell? ⟨b1, 0, none⟩ = some (.int .i64 B.cells) ∧ w'.cell? ⟨b1, 1, none⟩ = some (.slice an B.next.length cn) ∧ w'.cell? ⟨b1, 2, none⟩ = some (.slice at_ B.turn.length ct)) (by kernel_rfl) ⟨c0, c1, c2⟩ (fun hHeld => ?_)
            refine wpAnyH_take (i := 0) (oi := { dst := some 22, op := Op.move (Operand.tmp 5), type := 29, pos := "law.go:184", after := #[], guard := none }) (v := ?_) rfl (by kernel_rfl) (by kernel_rfl) (by kernel_rfl) (fun _ _ _ h => h) (Or.inl ⟨by rfl, ?_⟩) (by assumption) ?_
            rotate_left
            · ((intro w hSw; (try dsimp only at hSw); go_simp); try with_reducible rfl)
            (try simp only [Act.put, List.setIfInBounds_toArray, List.set_cons_zero, List.set_cons_succ])
            refine wpAnyH_take (i := 1) (oi := { dst := some 23, op := Op.move (Operand.tmp 7), type := 3, pos := "law.go:184", after := #[], guard := none }) (v := ?_) rfl (by kernel_rfl) (by kernel_rfl) (by kernel_rfl) (fun _ _ _ h => h) (Or.inl ⟨by rfl, ?_⟩) (by assumption) ?_
            rotate_left
            · ((intro w hSw; (try dsimp only at hSw); go_simp); try with_reducible rfl)
            (try simp only [Act.put, List.setIfInBounds_toArray, List.set_cons_zero, List.set_cons_succ])
            refine wpAnyH_ready (rs := [2]) (by kernel_rfl) (by simp) ?_
            refine AllReadyH.cons (o := { dst := some 24, op := Op.call { callee := Callee.value (Operand.func 30), args := #[Operand.tmp 22, Operand.tmp 23], argTypes := #[29, 3] }, type := 4, pos := "law.go:184", after := #[{ on := 0, ground := Ground.data }, { on := 1, ground := Ground.data }], guard := none }) rfl (fun K hK => ?_) AllReadyH.nil
            refine step_call_g rfl 30 _ _ #[.slice a5 M.length cap5, .int .i64 c] rfl rfl (enters_of Tryd.func30 (by kernel_rfl) rfl) (HHAS.out.mono ?_)
            rintro e7 w7 ⟨rfl, rfl⟩
            refine ⟨_, rfl, hK.out _ _ hHeld (fun _ => ?_)⟩
            clear hK K
            (try simp only [Act.put, List.setIfInBounds_toArray, List.set_cons_zero, List.set_cons_succ])
            refine wpAnyH_take (i := 3) (oi := { dst := some 25, op := Op.unOp UnOp.not 4 (Operand.tmp 24), type := 4, pos := "law.go:184", after := #[{ on := 2, ground := Ground.data }], guard := none }) (v := ?_) rfl (by kernel_rfl) (by kernel_rfl) (by kernel_rfl) (fun _ _ _ h => h) (Or.inl ⟨by rfl, ?_⟩) (by assumption) ?_
            rotate_left
            · ((intro w hSw; (try dsimp only at hSw); go_simp); try with_reducible rfl)
            (try simp only [Act.put, List.setIfInBounds_toArray, List.set_cons_zero, List.set_cons_succ])
            refine wpAnyH_take (i := 4) (oi := { dst := some 26, op := Op.move (Operand.tmp 25), type := 4, pos := "law.go:184", after := #[{ on := 3, ground := Ground.data }, { on := 2, ground := Ground.chain }], guard := none }) (v := ?_) rfl (by kernel_rfl) (by kernel_rfl) (by kernel_rfl) (fun _ _ _ h => h) (Or.inl ⟨by rfl, ?_⟩) (by assumption) ?_
            rotate_left
            · ((intro w hSw; (try dsimp only at hSw); go_simp); try with_reducible rfl)
            (try simp only [Act.put, List.setIfInBounds_toArray, List.set_cons_zero, List.set_cons_succ])
            refine wpAnyH_take (i := 5) (oi := { dst := some 27, op := Op.load 31 (Operand.tmp 2), type := 31, pos := "law.go:184", after := #[{ on := 4, ground := Ground.guard }], guard := some (4, true) }) (v := undef) rfl (by kernel_rfl) (by kernel_rfl) (by kernel_rfl) (fun _ _ _ h => h) (Or.inr ⟨by rfl, rfl⟩) (by assumption) ?_
            (try simp only [Act.put, List.setIfInBounds_toArray, List.set_cons_zero, List.set_cons_succ])
            refine wpAnyH_take (i := 6) (oi := { dst := some 28, op := Op.move (Operand.tmp 5), type := 29, pos := "law.go:184", after := #[{ on := 4, ground := Ground.guard }], guard := some (4, true) }) (v := undef) rfl (by kernel_rfl) (by kernel_rfl) (by kernel_rfl) (fun _ _ _ h => h) (Or.inr ⟨by rfl, rfl⟩) (by assumption) ?_
            (try simp only [Act.put, List.setIfInBounds_toArray, List.set_cons_zero, List.set_cons_succ])
            refine wpAnyH_take (i := 7) (oi := { dst := some 29, op := Op.move (Operand.tmp 6), type := 3, pos := "law.go:184", after := #[{ on := 4, ground := Ground.guard }], guard := some (4, true) }) (v := undef) rfl (by kernel_rfl) (by kernel_rfl) (by kernel_rfl) (fun _ _ _ h => h) (Or.inr ⟨by rfl, rfl⟩) (by assumption) ?_
            (try simp only [Act.put, List.setIfInBounds_toArray, List.set_cons_zero, List.set_cons_succ])
            refine wpAnyH_take (i := 8) (oi := { dst := some 30, op := Op.indexAddr 29 (Operand.tmp 28) (Operand.tmp 29), type := 0, pos := "law.go:184", after := #[{ on := 6, ground := Ground.data }, { on := 7, ground := Ground.data }, { on := 4, ground := Ground.guard }], guard := some (4, true) }) (v := undef) rfl (by kernel_rfl) (by kernel_rfl) (by kernel_rfl) (fun _ _ _ h => h) (Or.inr ⟨by rfl, rfl⟩) (by assumption) ?_
            (try simp only [Act.put, List.setIfInBounds_toArray, List.set_cons_zero, List.set_cons_succ])
            refine wpAnyH_take (i := 9) (oi := { dst := some 31, op := Op.load 3 (Operand.tmp 30), type := 3, pos := "law.go:184", after := #[{ on := 8, ground := Ground.data }, { on := 4, ground := Ground.guard }], guard := some (4, true) }) (v := undef) rfl (by kernel_rfl) (by kernel_rfl) (by kernel_rfl) (fun _ _ _ h => h) (Or.inr ⟨by rfl, rfl⟩) (by assumption) ?_
            (try simp only [Act.put, List.setIfInBounds_toArray, List.set_cons_zero, List.set_cons_succ])
            refine wpAnyH_take (i := 10) (oi := { dst := some 32, op := Op.call { callee := Callee.value (Operand.func 19), args := #[Operand.tmp 27, Operand.tmp 31], argTypes := #[31, 3] }, type := 29, pos := "law.go:184", after := #[{ on := 5, ground := Ground.data }, { on := 9, ground := Ground.data }, { on := 4, ground := Ground.chain }, { on := 4, ground := Ground.guard }], guard := some (4, true) }) (v := undef) rfl (by kernel_rfl) (by kernel_rfl) (by kernel_rfl) (fun _ _ _ h => h) (Or.inr ⟨by rfl, rfl⟩) (by assumption) ?_
            (try simp only [Act.put, List.setIfInBounds_toArray, List.set_cons_zero, List.set_cons_succ])
            refine wpAnyH_take (i := 11) (oi := { dst := some 33, op := Op.move (Operand.tmp 7), type := 3, pos := "law.go:184", after := #[{ on := 4, ground := Ground.guard }], guard := some (4, true) }) (v := undef) rfl (by kernel_rfl) (by kernel_rfl) (by kernel_rfl) (fun _ _ _ h => h) (Or.inr ⟨by rfl, rfl⟩) (by assumption) ?_
            (try simp only [Act.put, List.setIfInBounds_toArray, List.set_cons_zero, List.set_cons_succ])
            refine wpAnyH_take (i := 12) (oi := { dst := some 34, op := Op.call { callee := Callee.value (Operand.func 30), args := #[Operand.tmp 32, Operand.tmp 33], argTypes := #[29, 3] }, type := 4, pos := "law.go:184", after := #[{ on := 10, ground := Ground.data }, { on := 11, ground := Ground.data }, { on := 10, ground := Ground.chain }, { on := 4, ground := Ground.guard }], guard := some (4, true) }) (v := undef) rfl (by kernel_rfl) (by kernel_rfl) (by kernel_rfl) (fun _ _ _ h => h) (Or.inr ⟨by rfl, rfl⟩) (by assumption) ?_
            (try simp only [Act.put, List.setIfInBounds_toArray, List.set_cons_zero, List.set_cons_succ])
            refine wpAnyH_take (i := 13) (oi := { dst := some 35, op := Op.move (Operand.tmp 34), type := 4, pos := "law.go:184", after := #[{ on := 12, ground := Ground.data }, { on := 12, ground := Ground.chain }, { on := 4, ground := Ground.guard }], guard := some (4, true) }) (v := undef) rfl (by kernel_rfl) (by kernel_rfl) (by kernel_rfl) (fun _ _ _ h => h) (Or.inr ⟨by rfl, rfl⟩) (by assumption) ?_
            (try simp only [Act.put, List.setIfInBounds_toArray, List.set_cons_zero, List.set_cons_succ])
            refine wpAnyH_take (i := 14) (oi := { dst := some 36, op := Op.load 31 (Operand.tmp 2), type := 31, pos := "law.go:184", after := #[{ on := 13, ground := Ground.guard }], guard := some (13, false) }) (v := undef) rfl (by kernel_rfl) (by kernel_rfl) (by kernel_rfl) (fun _ _ _ h => h) (Or.inr ⟨by rfl, rfl⟩) (by assumption) ?_
            (try simp only [Act.put, List.setIfInBounds_toArray, List.set_cons_zero, List.set_cons_succ])
            refine wpAnyH_take (i := 15) (oi := { dst := some 37, op := Op.move (Operand.tmp 7), type := 3, pos := "law.go:184", after := #[{ on := 13, ground := Ground.guard }], guard := some (13, false) }) (v := undef) rfl (by kernel_rfl) (by kernel_rfl) (by kernel_rfl) (fun _ _ _ h => h) (Or.inr ⟨by rfl, rfl⟩) (by assumption) ?_
            (try simp only [Act.put, List.setIfInBounds_toArray, List.set_cons_zero, List.set_cons_succ])
            refine wpAnyH_take (i := 16) (oi := { dst := some 38, op := Op.call { callee := Callee.value (Operand.func 19), args := #[Operand.tmp 36, Operand.tmp 37], argTypes := #[31, 3] }, type := 29, pos := "law.go:184", after := #[{ on := 14, ground := Ground.data }, { on := 15, ground := Ground.data }, { on := 13, ground := Ground.chain }, { on := 13, ground := Ground.guard }], guard := some (13, false) }) (v := undef) rfl (by kernel_rfl) (by kernel_rfl) (by kernel_rfl) (fun _ _ _ h => h) (Or.inr ⟨by rfl, rfl⟩) (by assumption) ?_
            (try simp only [Act.put, List.setIfInBounds_toArray, List.set_cons_zero, List.set_cons_succ])
            refine wpAnyH_take (i := 17) (oi := { dst := some 39, op := Op.move (Operand.tmp 5), type := 29, pos := "law.go:184", after := #[{ on := 13, ground := Ground.guard }], guard := some (13, false) }) (v := undef) rfl (by kernel_rfl) (by kernel_rfl) (by kernel_rfl) (fun _ _ _ h => h) (Or.inr ⟨by rfl, rfl⟩) (by assumption) ?_
            (try simp only [Act.put, List.setIfInBounds_toArray, List.set_cons_zero, List.set_cons_succ])
            refine wpAnyH_take (i := 18) (oi := { dst := some 40, op := Op.move (Operand.tmp 6), type := 3, pos := "law.go:184", after := #[{ on := 13, ground := Ground.guard }], guard := some (13, false) }) (v := undef) rfl (by kernel_rfl) (by kernel_rfl) (by kernel_rfl) (fun _ _ _ h => h) (Or.inr ⟨by rfl, rfl⟩) (by assumption) ?_
            (try simp only [Act.put, List.setIfInBounds_toArray, List.set_cons_zero, List.set_cons_succ])
            refine wpAnyH_take (i := 19) (oi := { dst := some 41, op := Op.indexAddr 29 (Operand.tmp 39) (Operand.tmp 40), type := 0, pos := "law.go:184", after := #[{ on := 17, ground := Ground.data }, { on := 18, ground := Ground.data }, { on := 13, ground := Ground.guard }], guard := some (13, false) }) (v := undef) rfl (by kernel_rfl) (by kernel_rfl) (by kernel_rfl) (fun _ _ _ h => h) (Or.inr ⟨by rfl, rfl⟩) (by assumption) ?_
            (try simp only [Act.put, List.setIfInBounds_toArray, List.set_cons_zero, List.set_cons_succ])
            refine wpAnyH_take (i := 20) (oi := { dst := some 42, op := Op.load 3 (Operand.tmp 41), type := 3, pos := "law.go:184", after := #[{ on := 19, ground := Ground.data }, { on := 13, ground := Ground.guard }], guard := some (13, false) }) (v := undef) rfl (by kernel_rfl) (by kernel_rfl) (by kernel_rfl) (fun _ _ _ h => h) (Or.inr ⟨by rfl, rfl⟩) (by assumption) ?_
            (try simp only [Act.put, List.setIfInBounds_toArray, List.set_cons_zero, List.set_cons_succ])
            refine wpAnyH_take (i := 21) (oi := { dst := some 43, op := Op.call { callee := Callee.value (Operand.func 30), args := #[Operand.tmp 38, Operand.tmp 42], argTypes := #[29, 3] }, type := 4, pos := "law.go:184", after := #[{ on := 16, ground := Ground.data }, { on := 20, ground := Ground.data }, { on := 16, ground := Ground.chain }, { on := 13, ground := Ground.guard }], guard := some (13, false) }) (v := undef) rfl (by kernel_rfl) (by kernel_rfl) (by kernel_rfl) (fun _ _ _ h => h) (Or.inr ⟨by rfl, rfl⟩) (by assumption) ?_
            (try simp only [Act.put, List.setIfInBounds_toArray, List.set_cons_zero, List.set_cons_succ])
            refine wpAnyH_take (i := 22) (oi := { dst := some 44, op := Op.pick (Operand.tmp 35) (Operand.const (Value.bool true)) (Operand.tmp 43), type := 4, pos := "law.go:184", after := #[{ on := 13, ground := Ground.data }, { on := 21, ground := Ground.data }, { on := 4, ground := Ground.guard }], guard := some (4, true) }) (v := undef) rfl (by kernel_rfl) (by kernel_rfl) (by kernel_rfl) (fun _ _ _ h => h) (Or.inr ⟨by rfl, rfl⟩) (by assumption) ?_
            (try simp only [Act.put, List.setIfInBounds_toArray, List.set_cons_zero, List.set_cons_succ])
            refine wpAnyH_take (i := 23) (oi := { dst := some 45, op := Op.pick (Operand.tmp 26) (Operand.tmp 44) (Operand.const (Value.bool false)), type := 4, pos := "law.go:184", after := #[{ on := 4, ground := Ground.data }, { on := 22, ground := Ground.data }], guard := none }) (v := ?_) rfl (by kernel_rfl) (by kernel_rfl) (by kernel_rfl) (fun _ _ _ h => h) (Or.inl ⟨by rfl, ?_⟩) (by assumption) ?_
            rotate_left
            · ((intro w hSw; (try dsimp only at hSw); go_simp); try with_reducible rfl)
            (try simp only [Act.put, List.setIfInBounds_toArray, List.set_cons_zero, List.set_cons_succ])
            refine wpAnyH_done (by kernel_rfl) ?_ _
            go_wp2
            go_roundw
            case rel => exact ⟨c + 1, M, by simp, by omega, hkM, hG.skip (.inl hm), ho.alters (S := fun _ => False) (Alters.of_below (Below.refl _ wr).drew) (fun _ h => h.elim), hbi.drew⟩
            case measure => simp [intOf]; omega
          · have hd : decide ((c : Int) ∈ M) = false := by simpa using hm
            have hmem : M[k]?.getD 0 ∈ M := by
              rw [List.getElem?_eq_getElem hkM]
              exact List.getElem_mem hkM
            obtain ⟨x, ex, hx, _⟩ := hG.lk _ hmem
            obtain ⟨b5, off5, ha5, _, hcx⟩ := hI5.at_ hkM
            subst ha5
            rw [ex] at hcx
            have hadj := near_adj hB HNN.out hx hcn (fun e => hm (by rw [← e, ← ex]; exact hmem))
            have HEX := Lib.hid ex
            clear ex hmem
            by_cases h1 : (c : Int) ∈ nearS B x
            · have HD1 := Lib.hid (show decide ((c : Int) ∈ nearS B x) = true by simpa using h1)
              have HADJ := Lib.hid (hadj.1 (.inl h1))
              clear hadj h1
              have hhas := has_any M c (some ⟨b5, off5, none⟩) cap5 _ wr.drew hM2 (hI5.up (Nat.le_refl _) (Below.refl _ wr).drew)
              rw [hd] at hhas
              have HHAS := Lib.hid hhas
              have hnr := refNear_any B hB an at_ cn ct (x : Int) wr.drew (hH.up (Nat.le_refl _) (Below.refl _ wr).drew)
              have HNR := Lib.hid hnr
              have HO := Lib.hid ho
              have HHH := Lib.hid hH
              clear hhas hnr ho hH hI5
              go_wp2_with fail
              refine wp_region_held_drew (S := fun w' => w'.cell? ⟨b1, 0, none⟩ = some (.int .i64 B.cells) ∧ w'.cell? ⟨b1, 1, none⟩ = some (.slice an B.next.length cn) ∧ w'.cell? ⟨b1, 2, none⟩ = some (.slice at_ B.turn.length ct) ∧ w'.cell? ⟨b5, off5 + k, none⟩ = some (.int .i64 (x : Int))) (by kernel_rfl) ⟨c0, c1, c2, hcx⟩ (fun hHeld => ?_)
              refine wpAnyH_take (i := 0) (oi := { dst := some 22, op := Op.move (Operand.tmp 5), type := 29, pos := "law.go:184", after := #[], guard := none }) (v := ?_) rfl (by kernel_rfl) (by kernel_rfl) (by kernel_rfl) (fun _ _ _ h => h) (Or.inl ⟨by rfl, ?_⟩) (by assumption) ?_
              rotate_left
              · ((intro w hSw; (try dsimp only at hSw); go_simp); try with_reducible rfl)
              (try simp only [Act.put, List.setIfInBounds_toArray, List.set_cons_zero, List.set_cons_succ])
              refine wpAnyH_take (i := 1) (oi := { dst := some 23, op := Op.move (Operand.tmp 7), type := 3, pos := "law.go:184", after := #[], guard := none }) (v := ?_) rfl (by kernel_rfl) (by kernel_rfl) (by kernel_rfl) (fun _ _ _ h => h) (Or.inl ⟨by rfl, ?_⟩) (by assumption) ?_
              rotate_left
              · ((intro w hSw; (try dsimp only at hSw); go_simp); try with_reducible rfl)
              (try simp only [Act.put, List.setIfInBounds_toArray, List.set_cons_zero, List.set_cons_succ])
              refine wpAnyH_ready (rs := [2]) (by kernel_rfl) (by simp) ?_
              refine AllReadyH.cons (o := { dst := some 24, op := Op.call { callee := Callee.value (Operand.func 30), args := #[Operand.tmp 22, Operand.tmp 23], argTypes := #[29, 3] }, type := 4, pos := "law.go:184", after := #[{ on := 0, ground := Ground.data }, { on := 1, ground := Ground.data }], guard := none }) rfl (fun K hK => ?_) AllReadyH.nil
              refine step_call_g rfl 30 _ _ #[.slice (some ⟨b5, off5, none⟩) M.length cap5, .int .i64 c] rfl rfl (enters_of Tryd.func30 (by kernel_rfl) rfl) (HHAS.out.mono ?_)
              rintro e7 w70 ⟨rfl, rfl⟩
              refine ⟨_, rfl, hK.out _ _ hHeld (fun _ => ?_)⟩
              clear hK K
              (try simp only [Act.put, List.setIfInBounds_toArray, List.set_cons_zero, List.set_cons_succ])
              refine wpAnyH_take (i := 3) (oi := { dst := some 25, op := Op.unOp UnOp.not 4 (Operand.tmp 24), type := 4, pos := "law.go:184", after := #[{ on := 2, ground := Ground.data }], guard := none }) (v := ?_) rfl (by kernel_rfl) (by kernel_rfl) (by kernel_rfl) (fun _ _ _ h => h) (Or.inl ⟨by rfl, ?_⟩) (by assumption) ?_
              rotate_left
              · ((intro w hSw; (try dsimp only at hSw); go_simp); try with_reducible rfl)
              (try simp only [Act.put, List.setIfInBounds_toArray, List.set_cons_zero, List.set_cons_succ])
              refine wpAnyH_take (i := 4) (oi := { dst := some 26, op := Op.move (Operand.tmp 25), type := 4, pos := "law.go:184", after := #[{ on := 3, ground := Ground.data }, { on := 2, ground := Ground.chain }], guard := none }) (v := ?_) rfl (by kernel_rfl) (by kernel_rfl) (by kernel_rfl) (fun _ _ _ h => h) (Or.inl ⟨by rfl, ?_⟩) (by assumption) ?_
              rotate_left
              · ((intro w hSw; (try dsimp only at hSw); go_simp); try with_reducible rfl)
              (try simp only [Act.put, List.setIfInBounds_toArray, List.set_cons_zero, List.set_cons_succ])
              refine wpAnyH_take (i := 5) (oi := { dst := some 27, op := Op.load 31 (Operand.tmp 2), type := 31, pos := "law.go:184", after := #[{ on := 4, ground := Ground.guard }], guard := some (4, true) }) (v := ?_) rfl (by kernel_rfl) (by kernel_rfl) (by kernel_rfl) (fun _ _ _ h => h) (Or.inl ⟨by rfl, ?_⟩) (by assumption) ?_
              rotate_left
              · ((intro w hSw; (try dsimp only at hSw); go_simp); try with_reducible rfl)
              (try simp only [Act.put, List.setIfInBounds_toArray, List.set_cons_zero, List.set_cons_succ])
              refine wpAnyH_take (i := 6) (oi := { dst := some 28, op := Op.move (Operand.tmp 5), type := 29, pos := "law.go:184", after := #[{ on := 4, ground := Ground.guard }], guard := some (4, true) }) (v := ?_) rfl (by kernel_rfl) (by kernel_rfl) (by kernel_rfl) (fun _ _ _ h => h) (Or.inl ⟨by rfl, ?_⟩) (by assumption) ?_
              rotate_left
              · ((intro w hSw; (try dsimp only at hSw); go_simp); try with_reducible rfl)
              (try simp only [Act.put, List.setIfInBounds_toArray, List.set_cons_zero, List.set_cons_succ])
              refine wpAnyH_take (i := 7) (oi := { dst := some 29, op := Op.move (Operand.tmp 6), type := 3, pos := "law.go:184", after := #[{ on := 4, ground := Ground.guard }], guard := some (4, true) }) (v := ?_) rfl (by kernel_rfl) (by kernel_rfl) (by kernel_rfl) (fun _ _ _ h => h) (Or.inl ⟨by rfl, ?_⟩) (by assumption) ?_
              rotate_left
              · ((intro w hSw; (try dsimp only at hSw); go_simp); try with_reducible rfl)
              (try simp only [Act.put, List.setIfInBounds_toArray, List.set_cons_zero, List.set_cons_succ])
              refine wpAnyH_take (i := 8) (oi := { dst := some 30, op := Op.indexAddr 29 (Operand.tmp 28) (Operand.tmp 29), type := 0, pos := "law.go:184", after := #[{ on := 6, ground := Ground.data }, { on := 7, ground := Ground.data }, { on := 4, ground := Ground.guard }], guard := some (4, true) }) (v := ?_) rfl (by kernel_rfl) (by kernel_rfl) (by kernel_rfl) (fun _ _ _ h => h) (Or.inl ⟨by rfl, ?_⟩) (by assumption) ?_
              rotate_left
              · ((intro w hSw; (try dsimp only at hSw); go_simp); try with_reducible rfl)
              (try simp only [Act.put, List.setIfInBounds_toArray, List.set_cons_zero, List.set_cons_succ])
              refine wpAnyH_take (i := 9) (oi := { dst := some 31, op := Op.load 3 (Operand.tmp 30), type := 3, pos := "law.go:184", after := #[{ on := 8, ground := Ground.data }, { on := 4, ground := Ground.guard }], guard := some (4, true) }) (v := ?_) rfl (by kernel_rfl) (by kernel_rfl) (by kernel_rfl) (fun _ _ _ h => h) (Or.inl ⟨by rfl, ?_⟩) (by assumption) ?_
              rotate_left
              · ((intro w hSw; (try dsimp only at hSw); go_simp); try with_reducible rfl)
              (try simp only [Act.put, List.setIfInBounds_toArray, List.set_cons_zero, List.set_cons_succ])
              refine wpAnyH_take (i := 11) (oi := { dst := some 33, op := Op.move (Operand.tmp 7), type := 3, pos := "law.go:184", after := #[{ on := 4, ground := Ground.guard }], guard := some (4, true) }) (v := ?_) rfl (by kernel_rfl) (by kernel_rfl) (by kernel_rfl) (fun _ _ _ h => h) (Or.inl ⟨by rfl, ?_⟩) (by assumption) ?_
              rotate_left
              · ((intro w hSw; (try dsimp only at hSw); go_simp); try with_reducible rfl)
              (try simp only [Act.put, List.setIfInBounds_toArray, List.set_cons_zero, List.set_cons_succ])
              refine wpAnyH_ready (rs := [10]) (by kernel_rfl) (by simp) ?_
              refine AllReadyH.cons (o := { dst := some 32, op := Op.call { callee := Callee.value (Operand.func 19), args := #[Operand.tmp 27, Operand.tmp 31], argTypes := #[31, 3] }, type := 29, pos := "law.go:184", after := #[{ on := 5, ground := Ground.data }, { on := 9, ground := Ground.data }, { on := 4, ground := Ground.chain }, { on := 4, ground := Ground.guard }], guard := some (4, true) }) rfl (fun K hK => ?_) AllReadyH.nil
              refine step_call_g rfl 19 _ _ #[.agg #[.int .i64 B.cells, .slice an B.next.length cn, .slice at_ B.turn.length ct], .int .i64 x] rfl rfl (enters_of Tryd.func19 (by kernel_rfl) rfl) (HNR.out.mono ?_)
              rintro e6 w6 ⟨v6, rfl, hown6, hb6⟩
              obtain ⟨a6, cap6, rfl, hI6⟩ := OwnInts.ints hown6
              have hhas := has_any (nearS B x) c a6 cap6 _ w6 (by have := near_len hB (x : Int); omega) hI6
              rw [HD1.out] at hhas
              have HHAS2 := Lib.hid hhas
              have hbX : Below wr.heap.size wr w6 := below_step ((Below.refl _ wr).drew) hb6
              refine ⟨_, rfl, hK.out _ _ ⟨cell_keep hbX c0, cell_keep hbX c1, cell_keep hbX c2, cell_keep hbX hcx⟩ (fun hS6 => ?_)⟩
              clear hK K hhas hown6 hI6 hb6
              (try simp only [Act.put, List.setIfInBounds_toArray, List.set_cons_zero, List.set_cons_succ])
              refine wpAnyH_ready (rs := [12]) (by kernel_rfl) (by simp) ?_
              refine AllReadyH.cons (o := { dst := some 34, op := Op.call { callee := Callee.value (Operand.func 30), args := #[Operand.tmp 32, Operand.tmp 33], argTypes := #[29, 3] }, type := 4, pos := "law.go:184", after := #[{ on := 10, ground := Ground.data }, { on := 11, ground := Ground.data }, { on := 10, ground := Ground.chain }, { on := 4, ground := Ground.guard }], guard := some (4, true) }) rfl (fun K hK => ?_) AllReadyH.nil
              refine step_call_g rfl 30 _ _ #[.slice a6 (nearS B x).length cap6, .int .i64 c] rfl rfl (enters_of Tryd.func30 (by kernel_rfl) rfl) (HHAS2.out.mono ?_)
              rintro e7 w7 ⟨rfl, rfl⟩
              refine ⟨_, rfl, hK.out _ _ hS6 (fun _ => ?_)⟩
              clear hK K
              (try simp only [Act.put, List.setIfInBounds_toArray, List.set_cons_zero, List.set_cons_succ])
              refine wpAnyH_take (i := 13) (oi := { dst := some 35, op := Op.move (Operand.tmp 34), type := 4, pos := "law.go:184", after := #[{ on := 12, ground := Ground.data }, { on := 12, ground := Ground.chain }, { on := 4, ground := Ground.guard }], guard := some (4, true) }) (v := ?_) rfl (by kernel_rfl) (by kernel_rfl) (by kernel_rfl) (fun _ _ _ h => h) (Or.inl ⟨by rfl, ?_⟩) (by assumption) ?_
              rotate_left
              · ((intro w hSw; (try dsimp only at hSw); go_simp); try with_reducible rfl)
              (try simp only [Act.put, List.setIfInBounds_toArray, List.set_cons_zero, List.set_cons_succ])
              refine wpAnyH_take (i := 14) (oi := { dst := some 36, op := Op.load 31 (Operand.tmp 2), type := 31, pos := "law.go:184", after := #[{ on := 13, ground := Ground.guard }], guard := some (13, false) }) (v := undef) rfl (by kernel_rfl) (by kernel_rfl) (by kernel_rfl) (fun _ _ _ h => h) (Or.inr ⟨by rfl, rfl⟩) (by assumption) ?_
              (try simp only [Act.put, List.setIfInBounds_toArray, List.set_cons_zero, List.set_cons_succ])
              refine wpAnyH_take (i := 15) (oi := { dst := some 37, op := Op.move (Operand.tmp 7), type := 3, pos := "law.go:184", after := #[{ on := 13, ground := Ground.guard }], guard := some (13, false) }) (v := undef) rfl (by kernel_rfl) (by kernel_rfl) (by kernel_rfl) (fun _ _ _ h => h) (Or.inr ⟨by rfl, rfl⟩) (by assumption) ?_
              (try simp only [Act.put, List.setIfInBounds_toArray, List.set_cons_zero, List.set_cons_succ])
              refine wpAnyH_take (i := 16) (oi := { dst := some 38, op := Op.call { callee := Callee.value (Operand.func 19), args := #[Operand.tmp 36, Operand.tmp 37], argTypes := #[31, 3] }, type := 29, pos := "law.go:184", after := #[{ on := 14, ground := Ground.data }, { on := 15, ground := Ground.data }, { on := 13, ground := Ground.chain }, { on := 13, ground := Ground.guard }], guard := some (13, false) }) (v := undef) rfl (by kernel_rfl) (by kernel_rfl) (by kernel_rfl) (fun _ _ _ h => h) (Or.inr ⟨by rfl, rfl⟩) (by assumption) ?_
              (try simp only [Act.put, List.setIfInBounds_toArray, List.set_cons_zero, List.set_cons_succ])
              refine wpAnyH_take (i := 17) (oi := { dst := some 39, op := Op.move (Operand.tmp 5), type := 29, pos := "law.go:184", after := #[{ on := 13, ground := Ground.guard }], guard := some (13, false) }) (v := undef) rfl (by kernel_rfl) (by kernel_rfl) (by kernel_rfl) (fun _ _ _ h => h) (Or.inr ⟨by rfl, rfl⟩) (by assumption) ?_
              (try simp only [Act.put, List.setIfInBounds_toArray, List.set_cons_zero, List.set_cons_succ])
              refine wpAnyH_take (i := 18) (oi := { dst := some 40, op := Op.move (Operand.tmp 6), type := 3, pos := "law.go:184", after := #[{ on := 13, ground := Ground.guard }], guard := some (13, false) }) (v := undef) rfl (by kernel_rfl) (by kernel_rfl) (by kernel_rfl) (fun _ _ _ h => h) (Or.inr ⟨by rfl, rfl⟩) (by assumption) ?_
              (try simp only [Act.put, List.setIfInBounds_toArray, List.set_cons_zero, List.set_cons_succ])
              refine wpAnyH_take (i := 19) (oi := { dst := some 41, op := Op.indexAddr 29 (Operand.tmp 39) (Operand.tmp 40), type := 0, pos := "law.go:184", after := #[{ on := 17, ground := Ground.data }, { on := 18, ground := Ground.data }, { on := 13, ground := Ground.guard }], guard := some (13, false) }) (v := undef) rfl (by kernel_rfl) (by kernel_rfl) (by kernel_rfl) (fun _ _ _ h => h) (Or.inr ⟨by rfl, rfl⟩) (by assumption) ?_
              (try simp only [Act.put, List.setIfInBounds_toArray, List.set_cons_zero, List.set_cons_succ])
              refine wpAnyH_take (i := 20) (oi := { dst := some 42, op := Op.load 3 (Operand.tmp 41), type := 3, pos := "law.go:184", after := #[{ on := 19, ground := Ground.data }, { on := 13, ground := Ground.guard }], guard := some (13, false) }) (v := undef) rfl (by kernel_rfl) (by kernel_rfl) (by kernel_rfl) (fun _ _ _ h => h) (Or.inr ⟨by rfl, rfl⟩) (by assumption) ?_
              (try simp only [Act.put, List.setIfInBounds_toArray, List.set_cons_zero, List.set_cons_succ])
              refine wpAnyH_take (i := 21) (oi := { dst := some 43, op := Op.call { callee := Callee.value (Operand.func 30), args := #[Operand.tmp 38, Operand.tmp 42], argTypes := #[29, 3] }, type := 4, pos := "law.go:184", after := #[{ on := 16, ground := Ground.data }, { on := 20, ground := Ground.data }, { on := 16, ground := Ground.chain }, { on := 13, ground := Ground.guard }], guard := some (13, false) }) (v := undef) rfl (by kernel_rfl) (by kernel_rfl) (by kernel_rfl) (fun _ _ _ h => h) (Or.inr ⟨by rfl, rfl⟩) (by assumption) ?_
              (try simp only [Act.put, List.setIfInBounds_toArray, List.set_cons_zero, List.set_cons_succ])
              refine wpAnyH_take (i := 22) (oi := { dst := some 44, op := Op.pick (Operand.tmp 35) (Operand.const (Value.bool true)) (Operand.tmp 43), type := 4, pos := "law.go:184", after := #[{ on := 13, ground := Ground.data }, { on := 21, ground := Ground.data }, { on := 4, ground := Ground.guard }], guard := some (4, true) }) (v := ?_) rfl (by kernel_rfl) (by kernel_rfl) (by kernel_rfl) (fun _ _ _ h => h) (Or.inl ⟨by rfl, ?_⟩) (by assumption) ?_
              rotate_left
              · ((intro w hSw; (try dsimp only at hSw); go_simp); try with_reducible rfl)
              (try simp only [Act.put, List.setIfInBounds_toArray, List.set_cons_zero, List.set_cons_succ])
              refine wpAnyH_take (i := 23) (oi := { dst := some 45, op := Op.pick (Operand.tmp 26) (Operand.tmp 44) (Operand.const (Value.bool false)), type := 4, pos := "law.go:184", after := #[{ on := 4, ground := Ground.data }, { on := 22, ground := Ground.data }], guard := none }) (v := ?_) rfl (by kernel_rfl) (by kernel_rfl) (by kernel_rfl) (fun _ _ _ h => h) (Or.inl ⟨by rfl, ?_⟩) (by assumption) ?_
              rotate_left
              · ((intro w hSw; (try dsimp only at hSw); go_simp); try with_reducible rfl)
              (try simp only [Act.put, List.setIfInBounds_toArray, List.set_cons_zero, List.set_cons_succ])
              refine wpAnyH_done (by kernel_rfl) ?_ _
              have hAB : Below w7.heap.size w7 (w7.alloc (.cells #[.int .i64 (c : Int)] 3)) := (Below.refl _ _).alloc (Nat.le_refl _) _
              have hoE : OwnInts w1.heap.size w7 (.slice (some ⟨b5, off5, none⟩) M.length cap5) M := HO.out.alters (S := fun _ => False) (Alters.of_below hbX) (fun _ h => h.elim)
              have hbE : Below w1.heap.size w1 w7 := below_step hbi hbX
              have HNA := Lib.hid (hoE.alters (S := fun _ => False) (Alters.of_below hAB) (fun _ h => h.elim))
              have HN := Lib.hid hoE
              clear hoE
              go_wp2_with (at_builtin; go_loud (refine wpList_push rfl (.tmp 46) (.tmp 48) rfl w1.heap.size _ M rfl HNA.out (by omega) (Nat.le_trans hbE.size hAB.size) ⟨w7.heap.size, 0, none⟩ c rfl (cell_new_at _ _ _ _ _ _ rfl rfl) ?_; intro gp capp wp hownp hgp hatp))
              have hbp := push_below hbE hAB hbE.size HN.out hgp
              clear hatp
              go_roundw
              case rel => exact ⟨c + 1, M ++ [(c : Int)], by simp, by omega, by simp; omega, hG.push hkM hcn hm (by rw [HEX.out]; exact HADJ.out), by simpa using hownp, hbp⟩
              case measure => simp [intOf]; omega
            · have HD1 := Lib.hid (show decide ((c : Int) ∈ nearS B x) = false by simpa using h1)
              by_cases h2 : (x : Int) ∈ nearS B c
              · have HD2 := Lib.hid (show decide ((x : Int) ∈ nearS B c) = true by simpa using h2)
                have HADJ := Lib.hid (hadj.1 (.inr h2))
                clear hadj h1 h2
                have hhas := has_any M c (some ⟨b5, off5, none⟩) cap5 _ wr.drew hM2 (hI5.up (Nat.le_refl _) (Below.refl _ wr).drew)
                rw [hd] at hhas
                have HHAS := Lib.hid hhas
                have hnr := refNear_any B hB an at_ cn ct (x : Int) wr.drew (hH.up (Nat.le_refl _) (Below.refl _ wr).drew)
                have HNR := Lib.hid hnr
                have HO := Lib.hid ho
                have HHH := Lib.hid hH
                clear hhas hnr ho hH hI5
                go_wp2_with fail
                refine wp_region_held_drew (S := fun w' => w'.cell? ⟨b1, 0, none⟩ = some (.int .i64 B.cells) ∧ w'.cell? ⟨b1, 1, none⟩ = some (.slice an B.next.length cn) ∧ w'.cell? ⟨b1, 2, none⟩ = some (.slice at_ B.turn.length ct) ∧ w'.cell? ⟨b5, off5 + k, none⟩ = some (.int .i64 (x : Int))) (by kernel_rfl) ⟨c0, c1, c2, hcx⟩ (fun hHeld => ?_)
                refine wpAnyH_take (i := 0) (oi := { dst := some 22, op := Op.move (Operand.tmp 5), type := 29, pos := "law.go:184", after := #[], guard := none }) (v := ?_) rfl (by kernel_rfl) (by kernel_rfl) (by kernel_rfl) (fun _ _ _ h => h) (Or.inl ⟨by rfl, ?_⟩) (by assumption) ?_
                rotate_left
                · ((intro w hSw; (try dsimp only at hSw); go_simp); try with_reducible rfl)
                (try simp only [Act.put, List.setIfInBounds_toArray, List.set_cons_zero, List.set_cons_succ])
                refine wpAnyH_take (i := 1) (oi := { dst := some 23, op := Op.move (Operand.tmp 7), type := 3, pos := "law.go:184", after := #[], guard := none }) (v := ?_) rfl (by kernel_rfl) (by kernel_rfl) (by kernel_rfl) (fun _ _ _ h => h) (Or.inl ⟨by rfl, ?_⟩) (by assumption) ?_
                rotate_left
                · ((intro w hSw; (try dsimp only at hSw); go_simp); try with_reducible rfl)
                (try simp only [Act.put, List.setIfInBounds_toArray, List.set_cons_zero, List.set_cons_succ])
                refine wpAnyH_ready (rs := [2]) (by kernel_rfl) (by simp) ?_
                refine AllReadyH.cons (o := { dst := some 24, op := Op.call { callee := Callee.value (Operand.func 30), args := #[Operand.tmp 22, Operand.tmp 23], argTypes := #[29, 3] }, type := 4, pos := "law.go:184", after := #[{ on := 0, ground := Ground.data }, { on := 1, ground := Ground.data }], guard := none }) rfl (fun K hK => ?_) AllReadyH.nil
                refine step_call_g rfl 30 _ _ #[.slice (some ⟨b5, off5, none⟩) M.length cap5, .int .i64 c] rfl rfl (enters_of Tryd.func30 (by kernel_rfl) rfl) (HHAS.out.mono ?_)
                rintro e7 w70 ⟨rfl, rfl⟩
                refine ⟨_, rfl, hK.out _ _ hHeld (fun _ => ?_)⟩
                clear hK K
                (try simp only [Act.put, List.setIfInBounds_toArray, List.set_cons_zero, List.set_cons_succ])
                refine wpAnyH_take (i := 3) (oi := { dst := some 25, op := Op.unOp UnOp.not 4 (Operand.tmp 24), type := 4, pos := "law.go:184", after := #[{ on := 2, ground := Ground.data }], guard := none }) (v := ?_) rfl (by kernel_rfl) (by kernel_rfl) (by kernel_rfl) (fun _ _ _ h => h) (Or.inl ⟨by rfl, ?_⟩) (by assumption) ?_
                rotate_left
                · ((intro w hSw; (try dsimp only at hSw); go_simp); try with_reducible rfl)
                (try simp only [Act.put, List.setIfInBounds_toArray, List.set_cons_zero, List.set_cons_succ])
                refine wpAnyH_take (i := 4) (oi := { dst := some 26, op := Op.move (Operand.tmp 25), type := 4, pos := "law.go:184", after := #[{ on := 3, ground := Ground.data }, { on := 2, ground := Ground.chain }], guard := none }) (v := ?_) rfl (by kernel_rfl) (by kernel_rfl) (by kernel_rfl) (fun _ _ _ h => h) (Or.inl ⟨by rfl, ?_⟩) (by assumption) ?_
                rotate_left
                · ((intro w hSw; (try dsimp only at hSw); go_simp); try with_reducible rfl)
                (try simp only [Act.put, List.setIfInBounds_toArray, List.set_cons_zero, List.set_cons_succ])
                refine wpAnyH_take (i := 5) (oi := { dst := some 27, op := Op.load 31 (Operand.tmp 2), type := 31, pos := "law.go:184", after := #[{ on := 4, ground := Ground.guard }], guard := some (4, true) }) (v := ?_) rfl (by kernel_rfl) (by kernel_rfl) (by kernel_rfl) (fun _ _ _ h => h) (Or.inl ⟨by rfl, ?_⟩) (by assumption) ?_
                rotate_left
                · ((intro w hSw; (try dsimp only at hSw); go_simp); try with_reducible rfl)
                (try simp only [Act.put, List.setIfInBounds_toArray, List.set_cons_zero, List.set_cons_succ])
                refine wpAnyH_take (i := 6) (oi := { dst := some 28, op := Op.move (Operand.tmp 5), type := 29, pos := "law.go:184", after := #[{ on := 4, ground := Ground.guard }], guard := some (4, true) }) (v := ?_) rfl (by kernel_rfl) (by kernel_rfl) (by kernel_rfl) (fun _ _ _ h => h) (Or.inl ⟨by rfl, ?_⟩) (by assumption) ?_
                rotate_left
                · ((intro w hSw; (try dsimp only at hSw); go_simp); try with_reducible rfl)
                (try simp only [Act.put, List.setIfInBounds_toArray, List.set_cons_zero, List.set_cons_succ])
                refine wpAnyH_take (i := 7) (oi := { dst := some 29, op := Op.move (Operand.tmp 6), type := 3, pos := "law.go:184", after := #[{ on := 4, ground := Ground.guard }], guard := some (4, true) }) (v := ?_) rfl (by kernel_rfl) (by kernel_rfl) (by kernel_rfl) (fun _ _ _ h => h) (Or.inl ⟨by rfl, ?_⟩) (by assumption) ?_
                rotate_left
                · ((intro w hSw; (try dsimp only at hSw); go_simp); try with_reducible rfl)
                (try simp only [Act.put, List.setIfInBounds_toArray, List.set_cons_zero, List.set_cons_succ])
                refine wpAnyH_take (i := 8) (oi := { dst := some 30, op := Op.indexAddr 29 (Operand.tmp 28) (Operand.tmp 29), type := 0, pos := "law.go:184", after := #[{ on := 6, ground := Ground.data }, { on := 7, ground := Ground.data }, { on := 4, ground := Ground.guard }], guard := some (4, true) }) (v := ?_) rfl (by kernel_rfl) (by kernel_rfl) (by kernel_rfl) (fun _ _ _ h => h) (Or.inl ⟨by rfl, ?_⟩) (by assumption) ?_
                rotate_left
                · ((intro w hSw; (try dsimp only at hSw); go_simp); try with_reducible rfl)
                (try simp only [Act.put, List.setIfInBounds_toArray, List.set_cons_zero, List.set_cons_succ])
                refine wpAnyH_take (i := 9) (oi := { dst := some 31, op := Op.load 3 (Operand.tmp 30), type := 3, pos := "law.go:184", after := #[{ on := 8, ground := Ground.data }, { on := 4, ground := Ground.guard }], guard := some (4, true) }) (v := ?_) rfl (by kernel_rfl) (by kernel_rfl) (by kernel_rfl) (fun _ _ _ h => h) (Or.inl ⟨by rfl, ?_⟩) (by assumption) ?_
                rotate_left
                · ((intro w hSw; (try dsimp only at hSw); go_simp); try with_reducible rfl)
                (try simp only [Act.put, List.setIfInBounds_toArray, List.set_cons_zero, List.set_cons_succ])
                refine wpAnyH_take (i := 11) (oi := { dst := some 33, op := Op.move (Operand.tmp 7), type := 3, pos := "law.go:184", after := #[{ on := 4, ground := Ground.guard }], guard := some (4, true) }) (v := ?_) rfl (by kernel_rfl) (by kernel_rfl) (by kernel_rfl) (fun _ _ _ h => h) (Or.inl ⟨by rfl, ?_⟩) (by assumption) ?_
                rotate_left
                · ((intro w hSw; (try dsimp only at hSw); go_simp); try with_reducible rfl)
                (try simp only [Act.put, List.setIfInBounds_toArray, List.set_cons_zero, List.set_cons_succ])
                refine wpAnyH_ready (rs := [10]) (by kernel_rfl) (by simp) ?_
                refine AllReadyH.cons (o := { dst := some 32, op := Op.call { callee := Callee.value (Operand.func 19), args := #[Operand.tmp 27, Operand.tmp 31], argTypes := #[31, 3] }, type := 29, pos := "law.go:184", after := #[{ on := 5, ground := Ground.data }, { on := 9, ground := Ground.data }, { on := 4, ground := Ground.chain }, { on := 4, ground := Ground.guard }], guard := some (4, true) }) rfl (fun K hK => ?_) AllReadyH.nil
                refine step_call_g rfl 19 _ _ #[.agg #[.int .i64 B.cells, .slice an B.next.length cn, .slice at_ B.turn.length ct], .int .i64 x] rfl rfl (enters_of Tryd.func19 (by kernel_rfl) rfl) (HNR.out.mono ?_)
                rintro e6 w6 ⟨v6, rfl, hown6, hb6⟩
                obtain ⟨a6, cap6, rfl, hI6⟩ := OwnInts.ints hown6
                have hhas := has_any (nearS B x) c a6 cap6 _ w6 (by have := near_len hB (x : Int); omega) hI6
                rw [HD1.out] at hhas
                have HHAS2 := Lib.hid hhas
                have hbX : Below wr.heap.size wr w6 := below_step ((Below.refl _ wr).drew) hb6
                refine ⟨_, rfl, hK.out _ _ ⟨cell_keep hbX c0, cell_keep hbX c1, cell_keep hbX c2, cell_keep hbX hcx⟩ (fun hS6 => ?_)⟩
                clear hK K hhas hown6 hI6 hb6
                (try simp only [Act.put, List.setIfInBounds_toArray, List.set_cons_zero, List.set_cons_succ])
                refine wpAnyH_ready (rs := [12]) (by kernel_rfl) (by simp) ?_
                refine AllReadyH.cons (o := { dst := some 34, op := Op.call { callee := Callee.value (Operand.func 30), args := #[Operand.tmp 32, Operand.tmp 33], argTypes := #[29, 3] }, type := 4, pos := "law.go:184", after := #[{ on := 10, ground := Ground.data }, { on := 11, ground := Ground.data }, { on := 10, ground := Ground.chain }, { on := 4, ground := Ground.guard }], guard := some (4, true) }) rfl (fun K hK => ?_) AllReadyH.nil
                refine step_call_g rfl 30 _ _ #[.slice a6 (nearS B x).length cap6, .int .i64 c] rfl rfl (enters_of Tryd.func30 (by kernel_rfl) rfl) (HHAS2.out.mono ?_)
                rintro e7 w7 ⟨rfl, rfl⟩
                refine ⟨_, rfl, hK.out _ _ hS6 (fun _ => ?_)⟩
                clear hK K
                (try simp only [Act.put, List.setIfInBounds_toArray, List.set_cons_zero, List.set_cons_succ])
                refine wpAnyH_take (i := 13) (oi := { dst := some 35, op := Op.move (Operand.tmp 34), type := 4, pos := "law.go:184", after := #[{ on := 12, ground := Ground.data }, { on := 12, ground := Ground.chain }, { on := 4, ground := Ground.guard }], guard := some (4, true) }) (v := ?_) rfl (by kernel_rfl) (by kernel_rfl) (by kernel_rfl) (fun _ _ _ h => h) (Or.inl ⟨by rfl, ?_⟩) (by assumption) ?_
                rotate_left
                · ((intro w hSw; (try dsimp only at hSw); go_simp); try with_reducible rfl)
                (try simp only [Act.put, List.setIfInBounds_toArray, List.set_cons_zero, List.set_cons_succ])
                have hnr2 := refNear_any B hB an at_ cn ct (c : Int) w7 ((HHH.out.up (Nat.le_refl _) hbX).mono hbX.size)
                refine wpAnyH_take (i := 14) (oi := { dst := some 36, op := Op.load 31 (Operand.tmp 2), type := 31, pos := "law.go:184", after := #[{ on := 13, ground := Ground.guard }], guard := some (13, false) }) (v := ?_) rfl (by kernel_rfl) (by kernel_rfl) (by kernel_rfl) (fun _ _ _ h => h) (Or.inl ⟨by rfl, ?_⟩) (by assumption) ?_
                rotate_left
                · ((intro w hSw; (try dsimp only at hSw); go_simp); try with_reducible rfl)
                (try simp only [Act.put, List.setIfInBounds_toArray, List.set_cons_zero, List.set_cons_succ])
                refine wpAnyH_take (i := 15) (oi := { dst := some 37, op := Op.move (Operand.tmp 7), type := 3, pos := "law.go:184", after := #[{ on := 13, ground := Ground.guard }], guard := some (13, false) }) (v := ?_) rfl (by kernel_rfl) (by kernel_rfl) (by kernel_rfl) (fun _ _ _ h => h) (Or.inl ⟨by rfl, ?_⟩) (by assumption) ?_
                rotate_left
                · ((intro w hSw; (try dsimp only at hSw); go_simp); try with_reducible rfl)
                (try simp only [Act.put, List.setIfInBounds_toArray, List.set_cons_zero, List.set_cons_succ])
                refine wpAnyH_take (i := 17) (oi := { dst := some 39, op := Op.move (Operand.tmp 5), type := 29, pos := "law.go:184", after := #[{ on := 13, ground := Ground.guard }], guard := some (13, false) }) (v := ?_) rfl (by kernel_rfl) (by kernel_rfl) (by kernel_rfl) (fun _ _ _ h => h) (Or.inl ⟨by rfl, ?_⟩) (by assumption) ?_
                rotate_left
                · ((intro w hSw; (try dsimp only at hSw); go_simp); try with_reducible rfl)
                (try simp only [Act.put, List.setIfInBounds_toArray, List.set_cons_zero, List.set_cons_succ])
                refine wpAnyH_take (i := 18) (oi := { dst := some 40, op := Op.move (Operand.tmp 6), type := 3, pos := "law.go:184", after := #[{ on := 13, ground := Ground.guard }], guard := some (13, false) }) (v := ?_) rfl (by kernel_rfl) (by kernel_rfl) (by kernel_rfl) (fun _ _ _ h => h) (Or.inl ⟨by rfl, ?_⟩) (by assumption) ?_
                rotate_left
                · ((intro w hSw; (try dsimp only at hSw); go_simp); try with_reducible rfl)
                (try simp only [Act.put, List.setIfInBounds_toArray, List.set_cons_zero, List.set_cons_succ])
                refine wpAnyH_take (i := 19) (oi := { dst := some 41, op := Op.indexAddr 29 (Operand.tmp 39) (Operand.tmp 40), type := 0, pos := "law.go:184", after := #[{ on := 17, ground := Ground.data }, { on := 18, ground := Ground.data }, { on := 13, ground := Ground.guard }], guard := some (13, false) }) (v := ?_) rfl (by kernel_rfl) (by kernel_rfl) (by kernel_rfl) (fun _ _ _ h => h) (Or.inl ⟨by rfl, ?_⟩) (by assumption) ?_
                rotate_left
                · ((intro w hSw; (try dsimp only at hSw); go_simp); try with_reducible rfl)
                (try simp only [Act.put, List.setIfInBounds_toArray, List.set_cons_zero, List.set_cons_succ])
                refine wpAnyH_take (i := 20) (oi := { dst := some 42, op := Op.load 3 (Operand.tmp 41), type := 3, pos := "law.go:184", after := #[{ on := 19, ground := Ground.data }, { on := 13, ground := Ground.guard }], guard := some (13, false) }) (v := ?_) rfl (by kernel_rfl) (by kernel_rfl) (by kernel_rfl) (fun _ _ _ h => h) (Or.inl ⟨by rfl, ?_⟩) (by assumption) ?_
                rotate_left
                · ((intro w hSw; (try dsimp only at hSw); go_simp); try with_reducible rfl)
                (try simp only [Act.put, List.setIfInBounds_toArray, List.set_cons_zero, List.set_cons_succ])
                refine wpAnyH_ready (rs := [16]) (by kernel_rfl) (by simp) ?_
                refine AllReadyH.cons (o := { dst := some 38, op := Op.call { callee := Callee.value (Operand.func 19), args := #[Operand.tmp 36, Operand.tmp 37], argTypes := #[31, 3] }, type := 29, pos := "law.go:184", after := #[{ on := 14, ground := Ground.data }, { on := 15, ground := Ground.data }, { on := 13, ground := Ground.chain }, { on := 13, ground := Ground.guard }], guard := some (13, false) }) rfl (fun K hK => ?_) AllReadyH.nil
                refine step_call_g rfl 19 _ _ #[.agg #[.int .i64 B.cells, .slice an B.next.length cn, .slice at_ B.turn.length ct], .int .i64 c] rfl rfl (enters_of Tryd.func19 (by kernel_rfl) rfl) (hnr2.mono ?_)
                rintro e8 w8 ⟨v8, rfl, hown8, hb8⟩
                obtain ⟨a8, cap8, rfl, hI8⟩ := OwnInts.ints hown8
                have hhas := has_any (nearS B c) x a8 cap8 _ w8 (by have := near_len hB (c : Int); omega) hI8
                rw [HD2.out] at hhas
                have HHAS3 := Lib.hid hhas
                have hbY : Below wr.heap.size wr w8 := below_step hbX hb8
                refine ⟨_, rfl, hK.out _ _ ⟨cell_keep hbY c0, cell_keep hbY c1, cell_keep hbY c2, cell_keep hbY hcx⟩ (fun hS8 => ?_)⟩
                clear hK K hhas hown8 hI8 hb8 hnr2
                (try simp only [Act.put, List.setIfInBounds_toArray, List.set_cons_zero, List.set_cons_succ])
                refine wpAnyH_ready (rs := [21]) (by kernel_rfl) (by simp) ?_
                refine AllReadyH.cons (o := { dst := some 43, op := Op.call { callee := Callee.value (Operand.func 30), args := #[Operand.tmp 38, Operand.tmp 42], argTypes := #[29, 3] }, type := 4, pos := "law.go:184", after := #[{ on := 16, ground := Ground.data }, { on := 20, ground := Ground.data }, { on := 16, ground := Ground.chain }, { on := 13, ground := Ground.guard }], guard := some (13, false) }) rfl (fun K hK => ?_) AllReadyH.nil
                refine step_call_g rfl 30 _ _ #[.slice a8 (nearS B c).length cap8, .int .i64 x] rfl rfl (enters_of Tryd.func30 (by kernel_rfl) rfl) (HHAS3.out.mono ?_)
                rintro e9 w9 ⟨rfl, rfl⟩
                refine ⟨_, rfl, hK.out _ _ hS8 (fun _ => ?_)⟩
                clear hK K
                (try simp only [Act.put, List.setIfInBounds_toArray, List.set_cons_zero, List.set_cons_succ])
                refine wpAnyH_take (i := 22) (oi := { dst := some 44, op := Op.pick (Operand.tmp 35) (Operand.const (Value.bool true)) (Operand.tmp 43), type := 4, pos := "law.go:184", after := #[{ on := 13, ground := Ground.data }, { on := 21, ground := Ground.data }, { on := 4, ground := Ground.guard }], guard := some (4, true) }) (v := ?_) rfl (by kernel_rfl) (by kernel_rfl) (by kernel_rfl) (fun _ _ _ h => h) (Or.inl ⟨by rfl, ?_⟩) (by assumption) ?_
                rotate_left
                · ((intro w hSw; (try dsimp only at hSw); go_simp); try with_reducible rfl)
                (try simp only [Act.put, List.setIfInBounds_toArray, List.set_cons_zero, List.set_cons_succ])
                refine wpAnyH_take (i := 23) (oi := { dst := some 45, op := Op.pick (Operand.tmp 26) (Operand.tmp 44) (Operand.const (Value.bool false)), type := 4, pos := "law.go:184", after := #[{ on := 4, ground := Ground.data }, { on := 22, ground := Ground.data }], guard := none }) (v := ?_) rfl (by kernel_rfl) (by kernel_rfl) (by kernel_rfl) (fun _ _ _ h => h) (Or.inl ⟨by rfl, ?_⟩) (by assumption) ?_
                rotate_left
                · ((intro w hSw; (try dsimp only at hSw); go_simp); try with_reducible rfl)
                (try simp only [Act.put, List.setIfInBounds_toArray, List.set_cons_zero, List.set_cons_succ])
                refine wpAnyH_done (by kernel_rfl) ?_ _
                have hAB : Below w9.heap.size w9 (w9.alloc (.cells #[.int .i64 (c : Int)] 3)) := (Below.refl _ _).alloc (Nat.le_refl _) _
                have hoE : OwnInts w1.heap.size w9 (.slice (some ⟨b5, off5, none⟩) M.length cap5) M := HO.out.alters (S := fun _ => False) (Alters.of_below hbY) (fun _ h => h.elim)
                have hbE : Below w1.heap.size w1 w9 := below_step hbi hbY
                have HNA := Lib.hid (hoE.alters (S := fun _ => False) (Alters.of_below hAB) (fun _ h => h.elim))
                have HN := Lib.hid hoE
                clear hoE
                go_wp2_with (at_builtin; go_loud (refine wpList_push rfl (.tmp 46) (.tmp 48) rfl w1.heap.size _ M rfl HNA.out (by omega) (Nat.le_trans hbE.size hAB.size) ⟨w9.heap.size, 0, none⟩ c rfl (cell_new_at _ _ _ _ _ _ rfl rfl) ?_; intro gp capp wp hownp hgp hatp))
                have hbp := push_below hbE hAB hbE.size HN.out hgp
                clear hatp
                go_roundw
                case rel => exact ⟨c + 1, M ++ [(c : Int)], by simp, by omega, by simp; omega, hG.push hkM hcn hm (by rw [HEX.out]; exact HADJ.out), by simpa using hownp, hbp⟩
                case measure => simp [intOf]; omega
              · have HD2 := Lib.hid (show decide ((x : Int) ∈ nearS B c) = false by simpa using h2)
                have HADJ := Lib.hid (fun h => (hadj.2 h).elim h1 h2)
                clear hadj h1 h2
                have hhas := has_any M c (some ⟨b5, off5, none⟩) cap5 _ wr.drew hM2 (hI5.up (Nat.le_refl _) (Below.refl _ wr).drew)
                rw [hd] at hhas
                have HHAS := Lib.hid hhas
                have hnr := refNear_any B hB an at_ cn ct (x : Int) wr.drew (hH.up (Nat.le_refl _) (Below.refl _ wr).drew)
                have HNR := Lib.hid hnr
                have HO := Lib.hid ho
                have HHH := Lib.hid hH
                clear hhas hnr ho hH hI5
                go_wp2_with fail
                refine wp_region_held_drew (S := fun w' => w'.cell? ⟨b1, 0, none⟩ = some (.int .i64 B.cells) ∧ w'.cell? ⟨b1, 1, none⟩ = some (.slice an B.next.length cn) ∧ w'.cell? ⟨b1, 2, none⟩ = some (.slice at_ B.turn.length ct) ∧ w'.cell? ⟨b5, off5 + k, none⟩ = some (.int .i64 (x : Int))) (by kernel_rfl) ⟨c0, c1, c2, hcx⟩ (fun hHeld => ?_)
                refine wpAnyH_take (i := 0) (oi := { dst := some 22, op := Op.move (Operand.tmp 5), type := 29, pos := "law.go:184", after := #[], guard := none }) (v := ?_) rfl (by kernel_rfl) (by kernel_rfl) (by kernel_rfl) (fun _ _ _ h => h) (Or.inl ⟨by rfl, ?_⟩) (by assumption) ?_
                rotate_left
                · ((intro w hSw; (try dsimp only at hSw); go_simp); try with_reducible rfl)
                (try simp only [Act.put, List.setIfInBounds_toArray, List.set_cons_zero, List.set_cons_succ])
                refine wpAnyH_take (i := 1) (oi := { dst := some 23, op := Op.move (Operand.tmp 7), type := 3, pos := "law.go:184", after := #[], guard := none }) (v := ?_) rfl (by kernel_rfl) (by kernel_rfl) (by kernel_rfl) (fun _ _ _ h => h) (Or.inl ⟨by rfl, ?_⟩) (by assumption) ?_
                rotate_left
                · ((intro w hSw; (try dsimp only at hSw); go_simp); try with_reducible rfl)
                (try simp only [Act.put, List.setIfInBounds_toArray, List.set_cons_zero, List.set_cons_succ])
                refine wpAnyH_ready (rs := [2]) (by kernel_rfl) (by simp) ?_
                refine AllReadyH.cons (o := { dst := some 24, op := Op.call { callee := Callee.value (Operand.func 30), args := #[Operand.tmp 22, Operand.tmp 23], argTypes := #[29, 3] }, type := 4, pos := "law.go:184", after := #[{ on := 0, ground := Ground.data }, { on := 1, ground := Ground.data }], guard := none }) rfl (fun K hK => ?_) AllReadyH.nil
                refine step_call_g rfl 30 _ _ #[.slice (some ⟨b5, off5, none⟩) M.length cap5, .int .i64 c] rfl rfl (enters_of Tryd.func30 (by kernel_rfl) rfl) (HHAS.out.mono ?_)
                rintro e7 w70 ⟨rfl, rfl⟩
                refine ⟨_, rfl, hK.out _ _ hHeld (fun _ => ?_)⟩
                clear hK K
                (try simp only [Act.put, List.setIfInBounds_toArray, List.set_cons_zero, List.set_cons_succ])
                refine wpAnyH_take (i := 3) (oi := { dst := some 25, op := Op.unOp UnOp.not 4 (Operand.tmp 24), type := 4, pos := "law.go:184", after := #[{ on := 2, ground := Ground.data }], guard := none }) (v := ?_) rfl (by kernel_rfl) (by kernel_rfl) (by kernel_rfl) (fun _ _ _ h => h) (Or.inl ⟨by rfl, ?_⟩) (by assumption) ?_
                rotate_left
                · ((intro w hSw; (try dsimp only at hSw); go_simp); try with_reducible rfl)
                (try simp only [Act.put, List.setIfInBounds_toArray, List.set_cons_zero, List.set_cons_succ])
                refine wpAnyH_take (i := 4) (oi := { dst := some 26, op := Op.move (Operand.tmp 25), type := 4, pos := "law.go:184", after := #[{ on := 3, ground := Ground.data }, { on := 2, ground := Ground.chain }], guard := none }) (v := ?_) rfl (by kernel_rfl) (by kernel_rfl) (by kernel_rfl) (fun _ _ _ h => h) (Or.inl ⟨by rfl, ?_⟩) (by assumption) ?_
                rotate_left
                · ((intro w hSw; (try dsimp only at hSw); go_simp); try with_reducible rfl)
                (try simp only [Act.put, List.setIfInBounds_toArray, List.set_cons_zero, List.set_cons_succ])
                refine wpAnyH_take (i := 5) (oi := { dst := some 27, op := Op.load 31 (Operand.tmp 2), type := 31, pos := "law.go:184", after := #[{ on := 4, ground := Ground.guard }], guard := some (4, true) }) (v := ?_) rfl (by kernel_rfl) (by kernel_rfl) (by kernel_rfl) (fun _ _ _ h => h) (Or.inl ⟨by rfl, ?_⟩) (by assumption) ?_
                rotate_left
                · ((intro w hSw; (try dsimp only at hSw); go_simp); try with_reducible rfl)
                (try simp only [Act.put, List.setIfInBounds_toArray, List.set_cons_zero, List.set_cons_succ])
                refine wpAnyH_take (i := 6) (oi := { dst := some 28, op := Op.move (Operand.tmp 5), type := 29, pos := "law.go:184", after := #[{ on := 4, ground := Ground.guard }], guard := some (4, true) }) (v := ?_) rfl (by kernel_rfl) (by kernel_rfl) (by kernel_rfl) (fun _ _ _ h => h) (Or.inl ⟨by rfl, ?_⟩) (by assumption) ?_
                rotate_left
                · ((intro w hSw; (try dsimp only at hSw); go_simp); try with_reducible rfl)
                (try simp only [Act.put, List.setIfInBounds_toArray, List.set_cons_zero, List.set_cons_succ])
                refine wpAnyH_take (i := 7) (oi := { dst := some 29, op := Op.move (Operand.tmp 6), type := 3, pos := "law.go:184", after := #[{ on := 4, ground := Ground.guard }], guard := some (4, true) }) (v := ?_) rfl (by kernel_rfl) (by kernel_rfl) (by kernel_rfl) (fun _ _ _ h => h) (Or.inl ⟨by rfl, ?_⟩) (by assumption) ?_
                rotate_left
                · ((intro w hSw; (try dsimp only at hSw); go_simp); try with_reducible rfl)
                (try simp only [Act.put, List.setIfInBounds_toArray, List.set_cons_zero, List.set_cons_succ])
                refine wpAnyH_take (i := 8) (oi := { dst := some 30, op := Op.indexAddr 29 (Operand.tmp 28) (Operand.tmp 29), type := 0, pos := "law.go:184", after := #[{ on := 6, ground := Ground.data }, { on := 7, ground := Ground.data }, { on := 4, ground := Ground.guard }], guard := some (4, true) }) (v := ?_) rfl (by kernel_rfl) (by kernel_rfl) (by kernel_rfl) (fun _ _ _ h => h) (Or.inl ⟨by rfl, ?_⟩) (by assumption) ?_
                rotate_left
                · ((intro w hSw; (try dsimp only at hSw); go_simp); try with_reducible rfl)
                (try simp only [Act.put, List.setIfInBounds_toArray, List.set_cons_zero, List.set_cons_succ])
                refine wpAnyH_take (i := 9) (oi := { dst := some 31, op := Op.load 3 (Operand.tmp 30), type := 3, pos := "law.go:184", after := #[{ on := 8, ground := Ground.data }, { on := 4, ground := Ground.guard }], guard := some (4, true) }) (v := ?_) rfl (by kernel_rfl) (by kernel_rfl) (by kernel_rfl) (fun _ _ _ h => h) (Or.inl ⟨by rfl, ?_⟩) (by assumption) ?_
                rotate_left
                · ((intro w hSw; (try dsimp only at hSw); go_simp); try with_reducible rfl)
                (try simp only [Act.put, List.setIfInBounds_toArray, List.set_cons_zero, List.set_cons_succ])
                refine wpAnyH_take (i := 11) (oi := { dst := some 33, op := Op.move (Operand.tmp 7), type := 3, pos := "law.go:184", after := #[{ on := 4, ground := Ground.guard }], guard := some (4, true) }) (v := ?_) rfl (by kernel_rfl) (by kernel_rfl) (by kernel_rfl) (fun _ _ _ h => h) (Or.inl ⟨by rfl, ?_⟩) (by assumption) ?_
                rotate_left
                · ((intro w hSw; (try dsimp only at hSw); go_simp); try with_reducible rfl)
                (try simp only [Act.put, List.setIfInBounds_toArray, List.set_cons_zero, List.set_cons_succ])
                refine wpAnyH_ready (rs := [10]) (by kernel_rfl) (by simp) ?_
                refine AllReadyH.cons (o := { dst := some 32, op := Op.call { callee := Callee.value (Operand.func 19), args := #[Operand.tmp 27, Operand.tmp 31], argTypes := #[31, 3] }, type := 29, pos := "law.go:184", after := #[{ on := 5, ground := Ground.data }, { on := 9, ground := Ground.data }, { on := 4, ground := Ground.chain }, { on := 4, ground := Ground.guard }], guard := some (4, true) }) rfl (fun K hK => ?_) AllReadyH.nil
                refine step_call_g rfl 19 _ _ #[.agg #[.int .i64 B.cells, .slice an B.next.length cn, .slice at_ B.turn.length ct], .int .i64 x] rfl rfl (enters_of Tryd.func19 (by kernel_rfl) rfl) (HNR.out.mono ?_)
                rintro e6 w6 ⟨v6, rfl, hown6, hb6⟩
                obtain ⟨a6, cap6, rfl, hI6⟩ := OwnInts.ints hown6
                have hhas := has_any (nearS B x) c a6 cap6 _ w6 (by have := near_len hB (x : Int); omega) hI6
                rw [HD1.out] at hhas
                have HHAS2 := Lib.hid hhas
                have hbX : Below wr.heap.size wr w6 := below_step ((Below.refl _ wr).drew) hb6
                refine ⟨_, rfl, hK.out _ _ ⟨cell_keep hbX c0, cell_keep hbX c1, cell_keep hbX c2, cell_keep hbX hcx⟩ (fun hS6 => ?_)⟩
                clear hK K hhas hown6 hI6 hb6
                (try simp only [Act.put, List.setIfInBounds_toArray, List.set_cons_zero, List.set_cons_succ])
                refine wpAnyH_ready (rs := [12]) (by kernel_rfl) (by simp) ?_
                refine AllReadyH.cons (o := { dst := some 34, op := Op.call { callee := Callee.value (Operand.func 30), args := #[Operand.tmp 32, Operand.tmp 33], argTypes := #[29, 3] }, type := 4, pos := "law.go:184", after := #[{ on := 10, ground := Ground.data }, { on := 11, ground := Ground.data }, { on := 10, ground := Ground.chain }, { on := 4, ground := Ground.guard }], guard := some (4, true) }) rfl (fun K hK => ?_) AllReadyH.nil
                refine step_call_g rfl 30 _ _ #[.slice a6 (nearS B x).length cap6, .int .i64 c] rfl rfl (enters_of Tryd.func30 (by kernel_rfl) rfl) (HHAS2.out.mono ?_)
                rintro e7 w7 ⟨rfl, rfl⟩
                refine ⟨_, rfl, hK.out _ _ hS6 (fun _ => ?_)⟩
                clear hK K
                (try simp only [Act.put, List.setIfInBounds_toArray, List.set_cons_zero, List.set_cons_succ])
                refine wpAnyH_take (i := 13) (oi := { dst := some 35, op := Op.move (Operand.tmp 34), type := 4, pos := "law.go:184", after := #[{ on := 12, ground := Ground.data }, { on := 12, ground := Ground.chain }, { on := 4, ground := Ground.guard }], guard := some (4, true) }) (v := ?_) rfl (by kernel_rfl) (by kernel_rfl) (by kernel_rfl) (fun _ _ _ h => h) (Or.inl ⟨by rfl, ?_⟩) (by assumption) ?_
                rotate_left
                · ((intro w hSw; (try dsimp only at hSw); go_simp); try with_reducible rfl)
                (try simp only [Act.put, List.setIfInBounds_toArray, List.set_cons_zero, List.set_cons_succ])
                have hnr2 := refNear_any B hB an at_ cn ct (c : Int) w7 ((HHH.out.up (Nat.le_refl _) hbX).mono hbX.size)
                refine wpAnyH_take (i := 14) (oi := { dst := some 36, op := Op.load 31 (Operand.tmp 2), type := 31, pos := "law.go:184", after := #[{ on := 13, ground := Ground.guard }], guard := some (13, false) }) (v := ?_) rfl (by kernel_rfl) (by kernel_rfl) (by kernel_rfl) (fun _ _ _ h => h) (Or.inl ⟨by rfl, ?_⟩) (by assumption) ?_
                rotate_left
                · ((intro w hSw; (try dsimp only at hSw); go_simp); try with_reducible rfl)
                (try simp only [Act.put, List.setIfInBounds_toArray, List.set_cons_zero, List.set_cons_succ])
                refine wpAnyH_take (i := 15) (oi := { dst := some 37, op := Op.move (Operand.tmp 7), type := 3, pos := "law.go:184", after := #[{ on := 13, ground := Ground.guard }], guard := some (13, false) }) (v := ?_) rfl (by kernel_rfl) (by kernel_rfl) (by kernel_rfl) (fun _ _ _ h => h) (Or.inl ⟨by rfl, ?_⟩) (by assumption) ?_
                rotate_left
                · ((intro w hSw; (try dsimp only at hSw); go_simp); try with_reducible rfl)
                (try simp only [Act.put, List.setIfInBounds_toArray, List.set_cons_zero, List.set_cons_succ])
                refine wpAnyH_take (i := 17) (oi := { dst := some 39, op := Op.move (Operand.tmp 5), type := 29, pos := "law.go:184", after := #[{ on := 13, ground := Ground.guard }], guard := some (13, false) }) (v := ?_) rfl (by kernel_rfl) (by kernel_rfl) (by kernel_rfl) (fun _ _ _ h => h) (Or.inl ⟨by rfl, ?_⟩) (by assumption) ?_
                rotate_left
                · ((intro w hSw; (try dsimp only at hSw); go_simp); try with_reducible rfl)
                (try simp only [Act.put, List.setIfInBounds_toArray, List.set_cons_zero, List.set_cons_succ])
                refine wpAnyH_take (i := 18) (oi := { dst := some 40, op := Op.move (Operand.tmp 6), type := 3, pos := "law.go:184", after := #[{ on := 13, ground := Ground.guard }], guard := some (13, false) }) (v := ?_) rfl (by kernel_rfl) (by kernel_rfl) (by kernel_rfl) (fun _ _ _ h => h) (Or.inl ⟨by rfl, ?_⟩) (by assumption) ?_
                rotate_left
                · ((intro w hSw; (try dsimp only at hSw); go_simp); try with_reducible rfl)
                (try simp only [Act.put, List.setIfInBounds_toArray, List.set_cons_zero, List.set_cons_succ])
                refine wpAnyH_take (i := 19) (oi := { dst := some 41, op := Op.indexAddr 29 (Operand.tmp 39) (Operand.tmp 40), type := 0, pos := "law.go:184", after := #[{ on := 17, ground := Ground.data }, { on := 18, ground := Ground.data }, { on := 13, ground := Ground.guard }], guard := some (13, false) }) (v := ?_) rfl (by kernel_rfl) (by kernel_rfl) (by kernel_rfl) (fun _ _ _ h => h) (Or.inl ⟨by rfl, ?_⟩) (by assumption) ?_
                rotate_left
                · ((intro w hSw; (try dsimp only at hSw); go_simp); try with_reducible rfl)
                (try simp only [Act.put, List.setIfInBounds_toArray, List.set_cons_zero, List.set_cons_succ])
                refine wpAnyH_take (i := 20) (oi := { dst := some 42, op := Op.load 3 (Operand.tmp 41), type := 3, pos := "law.go:184", after := #[{ on := 19, ground := Ground.data }, { on := 13, ground := Ground.guard }], guard := some (13, false) }) (v := ?_) rfl (by kernel_rfl) (by kernel_rfl) (by kernel_rfl) (fun _ _ _ h => h) (Or.inl ⟨by rfl, ?_⟩) (by assumption) ?_
                rotate_left
                · ((intro w hSw; (try dsimp only at hSw); go_simp); try with_reducible rfl)
                (try simp only [Act.put, List.setIfInBounds_toArray, List.set_cons_zero, List.set_cons_succ])
                refine wpAnyH_ready (rs := [16]) (by kernel_rfl) (by simp) ?_
                refine AllReadyH.cons (o := { dst := some 38, op := Op.call { callee := Callee.value (Operand.func 19), args := #[Operand.tmp 36, Operand.tmp 37], argTypes := #[31, 3] }, type := 29, pos := "law.go:184", after := #[{ on := 14, ground := Ground.data }, { on := 15, ground := Ground.data }, { on := 13, ground := Ground.chain }, { on := 13, ground := Ground.guard }], guard := some (13, false) }) rfl (fun K hK => ?_) AllReadyH.nil
                refine step_call_g rfl 19 _ _ #[.agg #[.int .i64 B.cells, .slice an B.next.length cn, .slice at_ B.turn.length ct], .int .i64 c] rfl rfl (enters_of Tryd.func19 (by kernel_rfl) rfl) (hnr2.mono ?_)
                rintro e8 w8 ⟨v8, rfl, hown8, hb8⟩
                obtain ⟨a8, cap8, rfl, hI8⟩ := OwnInts.ints hown8
                have hhas := has_any (nearS B c) x a8 cap8 _ w8 (by have := near_len hB (c : Int); omega) hI8
                rw [HD2.out] at hhas
                have HHAS3 := Lib.hid hhas
                have hbY : Below wr.heap.size wr w8 := below_step hbX hb8
                refine ⟨_, rfl, hK.out _ _ ⟨cell_keep hbY c0, cell_keep hbY c1, cell_keep hbY c2, cell_keep hbY hcx⟩ (fun hS8 => ?_)⟩
                clear hK K hhas hown8 hI8 hb8 hnr2
                (try simp only [Act.put, List.setIfInBounds_toArray, List.set_cons_zero, List.set_cons_succ])
                refine wpAnyH_ready (rs := [21]) (by kernel_rfl) (by simp) ?_
                refine AllReadyH.cons (o := { dst := some 43, op := Op.call { callee := Callee.value (Operand.func 30), args := #[Operand.tmp 38, Operand.tmp 42], argTypes := #[29, 3] }, type := 4, pos := "law.go:184", after := #[{ on := 16, ground := Ground.data }, { on := 20, ground := Ground.data }, { on := 16, ground := Ground.chain }, { on := 13, ground := Ground.guard }], guard := some (13, false) }) rfl (fun K hK => ?_) AllReadyH.nil
                refine step_call_g rfl 30 _ _ #[.slice a8 (nearS B c).length cap8, .int .i64 x] rfl rfl (enters_of Tryd.func30 (by kernel_rfl) rfl) (HHAS3.out.mono ?_)
                rintro e9 w9 ⟨rfl, rfl⟩
                refine ⟨_, rfl, hK.out _ _ hS8 (fun _ => ?_)⟩
                clear hK K
                (try simp only [Act.put, List.setIfInBounds_toArray, List.set_cons_zero, List.set_cons_succ])
                refine wpAnyH_take (i := 22) (oi := { dst := some 44, op := Op.pick (Operand.tmp 35) (Operand.const (Value.bool true)) (Operand.tmp 43), type := 4, pos := "law.go:184", after := #[{ on := 13, ground := Ground.data }, { on := 21, ground := Ground.data }, { on := 4, ground := Ground.guard }], guard := some (4, true) }) (v := ?_) rfl (by kernel_rfl) (by kernel_rfl) (by kernel_rfl) (fun _ _ _ h => h) (Or.inl ⟨by rfl, ?_⟩) (by assumption) ?_
                rotate_left
                · ((intro w hSw; (try dsimp only at hSw); go_simp); try with_reducible rfl)
                (try simp only [Act.put, List.setIfInBounds_toArray, List.set_cons_zero, List.set_cons_succ])
                refine wpAnyH_take (i := 23) (oi := { dst := some 45, op := Op.pick (Operand.tmp 26) (Operand.tmp 44) (Operand.const (Value.bool false)), type := 4, pos := "law.go:184", after := #[{ on := 4, ground := Ground.data }, { on := 22, ground := Ground.data }], guard := none }) (v := ?_) rfl (by kernel_rfl) (by kernel_rfl) (by kernel_rfl) (fun _ _ _ h => h) (Or.inl ⟨by rfl, ?_⟩) (by assumption) ?_
                rotate_left
                · ((intro w hSw; (try dsimp only at hSw); go_simp); try with_reducible rfl)
                (try simp only [Act.put, List.setIfInBounds_toArray, List.set_cons_zero, List.set_cons_succ])
                refine wpAnyH_done (by kernel_rfl) ?_ _
                go_wp2
                go_roundw
                case rel => exact ⟨c + 1, M, by simp, by omega, hkM, hG.skip (.inr (by rw [HEX.out]; exact HADJ.out)), HO.out.alters (S := fun _ => False) (Alters.of_below hbY) (fun _ h => h.elim), below_step hbi hbY⟩
                case measure => simp [intOf]; omega
        · obtain rfl : c = n := by omega
          have t1 : decide ((c : Int) < B.cells) = false := by simp; omega
          have y := y0.up hbi
          obtain ⟨c0, c1, c2, hH⟩ := y
          go_wp2
          go_roundw
          case rel => exact ⟨k + 1, M, by simp, hkM, hG.next, ho, hbi⟩
          case measure => simp [intOf]; omega
    · have t0 : decide ((k : Int) < (L.length : Int)) = false := by simpa using hkl
      go_wp2
      go_ret
      rw [HB1.out]
      exact ⟨_, L, rfl, OwnInts.mono ho (Nat.le_of_lt hbs), hlen, fun c => hG.all hB HNN.out hs (by omega) c, hbw0.trans (hbi.mono (Nat.le_of_lt hbs))⟩
end Go.Proofs.YtccapadoeocebaaDoor
