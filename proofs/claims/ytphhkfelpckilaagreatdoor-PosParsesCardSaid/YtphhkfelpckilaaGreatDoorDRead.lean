/-
  read of the package pos, given what its numbers are.
-/
import Derived.Test.YtphhkfelpckilaaGreatDoorDWrt
import Derived.Test.YtphhkfelpckilaaGreatDoorDNums
import Derived.Test.YtphhkfelpckilaaGreatDoorDCopy
import Derived.Deep.RegionHeld3
import Derived.Laws.ResultCell
namespace Go.Proofs.YtphhkfelpckilaaGreatDoor
open Go Go.RowKit

/-- Five stores into one block. -/
def set5 (W : World) (b : Nat) (u0 u1 u2 u3 u4 : Value) : World := ((((W.setCell ⟨b, 0, none⟩ u0).setCell ⟨b, 1, none⟩ u1).setCell ⟨b, 2, none⟩ u2).setCell ⟨b, 3, none⟩ u3).setCell ⟨b, 4, none⟩ u4
theorem set5_alters (W : World) (b : Nat) (u0 u1 u2 u3 u4 : Value) : Alters (fun k => k = b) W (set5 W b u0 u1 u2 u3 u4) :=
  ((((alters_cell W b 0 u0).trans (alters_cell _ b 1 u1)).trans (alters_cell _ b 2 u2)).trans (alters_cell _ b 3 u3)).trans (alters_cell _ b 4 u4)
theorem set5_cell {W : World} {b g j : Nat} {v : Value} (h : W.cell? ⟨g, j, none⟩ = some v) (hne : g ≠ b) (u0 u1 u2 u3 u4 : Value) : (set5 W b u0 u1 u2 u3 u4).cell? ⟨g, j, none⟩ = some v :=
  (World.cell?_of_block (a := ⟨g, j, none⟩) ((set5_alters W b u0 u1 u2 u3 u4).block g (World.block_lt_of_cell? _ _ h) hne)).trans h
theorem set5_own {n b : Nat} {W : World} {v : Value} {l : List Int} (ho : OwnInts n W v l) (hb : b < n) (u0 u1 u2 u3 u4 : Value) : OwnInts n (set5 W b u0 u1 u2 u3 u4) v l :=
  ho.alters (set5_alters W b u0 u1 u2 u3 u4) (fun k hk hv => by have hk : k = b := hk; have := (World.ownsRow.lt ho k hv.symm).1; omega)
theorem set5_block {W : World} {b : Nat} {cs : Array Value} {t : TypeId} (h : W.heap[b]? = some (.cells cs t (0, 0))) (u0 u1 u2 u3 u4 : Value) :
    (set5 W b u0 u1 u2 u3 u4).heap[b]? = some (.cells (((((cs.setIfInBounds 0 u0).setIfInBounds 1 u1).setIfInBounds 2 u2).setIfInBounds 3 u3).setIfInBounds 4 u4) t (0, 0)) :=
  bx_set (bx_set (bx_set (bx_set (bx_set h 0 _) 1 _) 2 _) 3 _) 4 _
theorem own_at {n : Nat} {W : World} {v : Value} {l : List Int} (h : OwnInts n W v l) : ∃ a c, v = .slice a l.length c ∧ Ints W.heap.size W a l := h.ints

set_option maxRecDepth 100000 in
set_option maxHeartbeats 4000000 in
theorem read_by (s t0 t1 t2 t3 t4 : List UInt8) (n0 n1 n2 : List Int) (w : World) (hE : EnvIn w) (hs : s.length ≤ 83) (hcn : Lib.countB ⟨s.toArray⟩ ⟨#[47]⟩ = 4)
    (hsp : Lib.splitB ⟨#[47]⟩ 0 4 ⟨s.toArray⟩ = [⟨t0.toArray⟩, ⟨t1.toArray⟩, ⟨t2.toArray⟩, ⟨t3.toArray⟩, ⟨t4.toArray⟩]) (ht3 : t3.length ≤ 100) (ht4 : t4.length ≤ 100)
    (h0 : ∀ W, Below w.heap.size w W → Calls Tryz.prog 79 #[.string ⟨t0.toArray⟩, .func (.func 80) #[.string ⟨contS.toArray⟩] #[]] W fun e w' => ∃ v, e = .returned v ∧ OwnInts W.heap.size w' v n0 ∧ Below W.heap.size W w')
    (h1 : ∀ W, Below w.heap.size w W → Calls Tryz.prog 79 #[.string ⟨t1.toArray⟩, .func (.func 80) #[.string ⟨digS.toArray⟩] #[]] W fun e w' => ∃ v, e = .returned v ∧ OwnInts W.heap.size w' v n1 ∧ Below W.heap.size W w')
    (h2 : ∀ W, Below w.heap.size w W → Calls Tryz.prog 79 #[.string ⟨t2.toArray⟩, .func (.func 80) #[.string ⟨digS.toArray⟩] #[]] W fun e w' => ∃ v, e = .returned v ∧ OwnInts W.heap.size w' v n2 ∧ Below W.heap.size W w') :
    Calls Tryz.prog 62 #[.string ⟨s.toArray⟩] w fun e w' => ∃ a a0 a1 c c0 c1, e = .returned (PosV a a0 a1 c c0 c1 ⟨n0, n1, n2, atoiS t3, atoiS t4⟩) ∧ PosOwn w.heap.size w' a a0 a1 c c0 c1 ⟨n0, n1, n2, atoiS t3, atoiS t4⟩ ∧ Below w.heap.size w w' := by
  have HE := Lib.hid hE
  have H0 := Lib.hid h0
  have H1 := Lib.hid h1
  have H2 := Lib.hid h2
  obtain ⟨m, hm⟩ := hE.max
  have t83 : decide ((83 : Int) < s.length) = false := by simp; omega
  have hb0 : Below w.heap.size w (w.alloc (.cells #[.slice none 0 0, .slice none 0 0, .slice none 0 0, .int .i64 0, .int .i64 0] 32)) := below_alloc (Below.refl _ _) _
  have hR0 : (w.alloc (.cells #[.slice none 0 0, .slice none 0 0, .slice none 0 0, .int .i64 0, .int .i64 0] 32)).heap[w.heap.size]? = some (.cells #[.slice none 0 0, .slice none 0 0, .slice none 0 0, .int .i64 0, .int .i64 0] 32 (0, 0)) := World.alloc_heap_new _ _
  have hSP := Tryz.strings_Split ⟨s.toArray⟩ ⟨#[47]⟩ m (w.alloc (.cells #[.slice none 0 0, .slice none 0 0, .slice none 0 0, .int .i64 0, .int .i64 0] 32)) (by simp [ByteArray.size]; omega) (cell_keep hb0 hm) (by decide)
  rw [hcn, hsp] at hSP
  have HSP := Lib.hid hSP
  clear hE h0 h1 h2 hSP hm hcn hsp
  go_enter Tryz.func62, Tryz.ntmps62
  go_wp2_with fail
  refine HSP.out.mono ?_
  rintro e w2 ⟨rfl, hw2⟩
  simp only [List.map_cons, List.map_nil] at hw2
  have hb1 : Below w.heap.size w w2 := by rw [hw2]; exact below_alloc hb0 _
  have hR1 : w2.heap[w.heap.size]? = some (.cells #[.slice none 0 0, .slice none 0 0, .slice none 0 0, .int .i64 0, .int .i64 0] 32 (0, 0)) := by rw [hw2]; exact (hp_old _ _ _ (by simp)).trans hR0
  have hg : ∀ (j : Nat) v, ([Value.string ⟨t0.toArray⟩, .string ⟨t1.toArray⟩, .string ⟨t2.toArray⟩, .string ⟨t3.toArray⟩, .string ⟨t4.toArray⟩] : List Value)[j]? = some v → w2.cell? ⟨w.heap.size + 1, j, none⟩ = some v := fun j v h => by rw [hw2]; exact cell_new_at _ _ _ _ _ _ (by simp) (by simpa using h)
  have g0 := hg 0 _ rfl
  have g1 := hg 1 _ rfl
  have g2 := hg 2 _ rfl
  have g3 := hg 3 _ rfl
  have g4 := hg 4 _ rfl
  have hsz : (w.alloc (.cells #[.slice none 0 0, .slice none 0 0, .slice none 0 0, .int .i64 0, .int .i64 0] 32)).heap.size = w.heap.size + 1 := by simp
  rw [hsz]
  have HR1 := Lib.hid hR1
  clear hg hw2 HSP hb0 hR0 hsz hR1
  have hl2 := bx_lt HR1.out
  have HA3 := Lib.hid (fun W hE => atoi_any ⟨t3.toArray⟩ (by simp [ByteArray.size]; omega) W hE)
  have HA4 := Lib.hid (fun W hE => atoi_any ⟨t4.toArray⟩ (by simp [ByteArray.size]; omega) W hE)
  have HB1 := Lib.hid hb1
  clear hb1 ht3 ht4
  go_wp2_with fail
  refine (HA3.out _ (HE.out.up HB1.out)).mono ?_
  rintro e w3 ⟨er3, rfl, hb3⟩
  have HB3 := Lib.hid (below_step HB1.out hb3)
  have HR3 := Lib.hid ((hb3.block _ hl2).trans HR1.out)
  replace g0 := cell_keep hb3 g0
  replace g1 := cell_keep hb3 g1
  replace g2 := cell_keep hb3 g2
  replace g3 := cell_keep hb3 g3
  replace g4 := cell_keep hb3 g4
  clear hb3 hl2 HB1 HR1
  have hl3 := bx_lt HR3.out
  go_wp2_with fail
  refine (HA4.out _ (HE.out.up HB3.out)).mono ?_
  rintro e w4 ⟨er4, rfl, hb4⟩
  have HB4 := Lib.hid (below_step HB3.out hb4)
  have HR4 := Lib.hid ((hb4.block _ hl3).trans HR3.out)
  replace g0 := cell_keep hb4 g0
  replace g1 := cell_keep hb4 g1
  replace g2 := cell_keep hb4 g2
  clear hb4 hl3 HB3 HR3 g3 g4
  have hl4 := bx_lt HR4.out
  have hx3 : atoiS (⟨t3.toArray⟩ : ByteArray).data.toList = atoiS t3 := by simp
  have hx4 : atoiS (⟨t4.toArray⟩ : ByteArray).data.toList = atoiS t4 := by simp
  rw [hx3, hx4]
  clear hx3 hx4
  generalize hz3 : atoiS t3 = z3
  generalize hz4 : atoiS t4 = z4
  have HZ3 := Lib.hid hz3
  have HZ4 := Lib.hid hz4
  clear hz3 hz4
  clear HA3 HA4 HE
  go_upto_region 8 with (fail)
  refine wp_region_noPanic ?_
  refine wp_region_held_drew (S := fun w' => Below w.heap.size w w' ∧ w'.cell? ⟨w.heap.size + 1, 0, none⟩ = some (.string ⟨t0.toArray⟩) ∧ w'.cell? ⟨w.heap.size + 1, 1, none⟩ = some (.string ⟨t1.toArray⟩) ∧ w'.cell? ⟨w.heap.size + 1, 2, none⟩ = some (.string ⟨t2.toArray⟩)) (by kernel_rfl) ⟨HB4.out.drew, g0, g1, g2⟩ (fun hHeld => ?_)
  refine wpAnyH_take (i := 0) (oi := { dst := some 32, op := Op.move (Operand.tmp 3), type := 72, pos := "text.go:70", after := #[], guard := none }) (v := ?_) rfl (by kernel_rfl) (by kernel_rfl) (by kernel_rfl) (fun _ _ _ h => h) (Or.inl ⟨by rfl, ?_⟩) (by assumption) ?_
  rotate_left
  · ((intro w hSw; (try dsimp only at hSw); go_simp); try with_reducible rfl)
  (try simp only [Act.put, List.setIfInBounds_toArray, List.set_cons_zero, List.set_cons_succ])
  refine wpAnyH_take (i := 1) (oi := { dst := some 33, op := Op.indexAddr 72 (Operand.tmp 32) (Operand.const (Value.int IntKind.i64 0)), type := 0, pos := "text.go:70", after := #[{ on := 0, ground := Ground.data }], guard := none }) (v := ?_) rfl (by kernel_rfl) (by kernel_rfl) (by kernel_rfl) (fun _ _ _ h => h) (Or.inl ⟨by rfl, ?_⟩) (by assumption) ?_
  rotate_left
  · ((intro w hSw; (try dsimp only at hSw); go_simp); try with_reducible rfl)
  (try simp only [Act.put, List.setIfInBounds_toArray, List.set_cons_zero, List.set_cons_succ])
  refine wpAnyH_take (i := 2) (oi := { dst := some 34, op := Op.load 9 (Operand.tmp 33), type := 9, pos := "text.go:70", after := #[{ on := 1, ground := Ground.data }], guard := none }) (v := ?_) rfl (by kernel_rfl) (by kernel_rfl) (by kernel_rfl) (fun _ _ _ h => h) (Or.inl ⟨by rfl, ?_⟩) (by assumption) ?_
  rotate_left
  · ((intro w hSw; (try dsimp only at hSw); go_simp); try with_reducible rfl)
  (try simp only [Act.put, List.setIfInBounds_toArray, List.set_cons_zero, List.set_cons_succ])
  refine wpAnyH_take (i := 3) (oi := { dst := some 35, op := Op.makeFunc (Fn.func 80) #[Operand.const (Value.string { data := #[46, 65, 97, 66, 98, 67, 99, 68, 100, 69, 101, 70, 102] })] #[], type := 129, pos := "text.go:70", after := #[], guard := none }) (v := ?_) rfl (by kernel_rfl) (by kernel_rfl) (by kernel_rfl) (fun _ _ _ h => h) (Or.inl ⟨by rfl, ?_⟩) (by assumption) ?_
  rotate_left
  · ((intro w hSw; (try dsimp only at hSw); go_simp); try with_reducible rfl)
  (try simp only [Act.put, List.setIfInBounds_toArray, List.set_cons_zero, List.set_cons_succ])
  refine wpAnyH_take (i := 5) (oi := { dst := some 37, op := Op.move (Operand.tmp 3), type := 72, pos := "text.go:70", after := #[], guard := none }) (v := ?_) rfl (by kernel_rfl) (by kernel_rfl) (by kernel_rfl) (fun _ _ _ h => h) (Or.inl ⟨by rfl, ?_⟩) (by assumption) ?_
  rotate_left
  · ((intro w hSw; (try dsimp only at hSw); go_simp); try with_reducible rfl)
  (try simp only [Act.put, List.setIfInBounds_toArray, List.set_cons_zero, List.set_cons_succ])
  refine wpAnyH_take (i := 6) (oi := { dst := some 38, op := Op.indexAddr 72 (Operand.tmp 37) (Operand.const (Value.int IntKind.i64 1)), type := 0, pos := "text.go:70", after := #[{ on := 5, ground := Ground.data }], guard := none }) (v := ?_) rfl (by kernel_rfl) (by kernel_rfl) (by kernel_rfl) (fun _ _ _ h => h) (Or.inl ⟨by rfl, ?_⟩) (by assumption) ?_
  rotate_left
  · ((intro w hSw; (try dsimp only at hSw); go_simp); try with_reducible rfl)
  (try simp only [Act.put, List.setIfInBounds_toArray, List.set_cons_zero, List.set_cons_succ])
  refine wpAnyH_take (i := 7) (oi := { dst := some 39, op := Op.load 9 (Operand.tmp 38), type := 9, pos := "text.go:70", after := #[{ on := 6, ground := Ground.data }], guard := none }) (v := ?_) rfl (by kernel_rfl) (by kernel_rfl) (by kernel_rfl) (fun _ _ _ h => h) (Or.inl ⟨by rfl, ?_⟩) (by assumption) ?_
  rotate_left
  · ((intro w hSw; (try dsimp only at hSw); go_simp); try with_reducible rfl)
  (try simp only [Act.put, List.setIfInBounds_toArray, List.set_cons_zero, List.set_cons_succ])
  refine wpAnyH_take (i := 8) (oi := { dst := some 40, op := Op.makeFunc (Fn.func 80) #[Operand.const (Value.string { data := #[48, 49, 50, 51, 52, 53, 54, 55, 56] })] #[], type := 129, pos := "text.go:70", after := #[], guard := none }) (v := ?_) rfl (by kernel_rfl) (by kernel_rfl) (by kernel_rfl) (fun _ _ _ h => h) (Or.inl ⟨by rfl, ?_⟩) (by assumption) ?_
  rotate_left
  · ((intro w hSw; (try dsimp only at hSw); go_simp); try with_reducible rfl)
  (try simp only [Act.put, List.setIfInBounds_toArray, List.set_cons_zero, List.set_cons_succ])
  refine wpAnyH_take (i := 10) (oi := { dst := some 42, op := Op.move (Operand.tmp 3), type := 72, pos := "text.go:70", after := #[], guard := none }) (v := ?_) rfl (by kernel_rfl) (by kernel_rfl) (by kernel_rfl) (fun _ _ _ h => h) (Or.inl ⟨by rfl, ?_⟩) (by assumption) ?_
  rotate_left
  · ((intro w hSw; (try dsimp only at hSw); go_simp); try with_reducible rfl)
  (try simp only [Act.put, List.setIfInBounds_toArray, List.set_cons_zero, List.set_cons_succ])
  refine wpAnyH_take (i := 11) (oi := { dst := some 43, op := Op.indexAddr 72 (Operand.tmp 42) (Operand.const (Value.int IntKind.i64 2)), type := 0, pos := "text.go:70", after := #[{ on := 10, ground := Ground.data }], guard := none }) (v := ?_) rfl (by kernel_rfl) (by kernel_rfl) (by kernel_rfl) (fun _ _ _ h => h) (Or.inl ⟨by rfl, ?_⟩) (by assumption) ?_
  rotate_left
  · ((intro w hSw; (try dsimp only at hSw); go_simp); try with_reducible rfl)
  (try simp only [Act.put, List.setIfInBounds_toArray, List.set_cons_zero, List.set_cons_succ])
  refine wpAnyH_take (i := 12) (oi := { dst := some 44, op := Op.load 9 (Operand.tmp 43), type := 9, pos := "text.go:70", after := #[{ on := 11, ground := Ground.data }], guard := none }) (v := ?_) rfl (by kernel_rfl) (by kernel_rfl) (by kernel_rfl) (fun _ _ _ h => h) (Or.inl ⟨by rfl, ?_⟩) (by assumption) ?_
  rotate_left
  · ((intro w hSw; (try dsimp only at hSw); go_simp); try with_reducible rfl)
  (try simp only [Act.put, List.setIfInBounds_toArray, List.set_cons_zero, List.set_cons_succ])
  refine wpAnyH_take (i := 13) (oi := { dst := some 45, op := Op.makeFunc (Fn.func 80) #[Operand.const (Value.string { data := #[48, 49, 50, 51, 52, 53, 54, 55, 56] })] #[], type := 129, pos := "text.go:70", after := #[], guard := none }) (v := ?_) rfl (by kernel_rfl) (by kernel_rfl) (by kernel_rfl) (fun _ _ _ h => h) (Or.inl ⟨by rfl, ?_⟩) (by assumption) ?_
  rotate_left
  · ((intro w hSw; (try dsimp only at hSw); go_simp); try with_reducible rfl)
  (try simp only [Act.put, List.setIfInBounds_toArray, List.set_cons_zero, List.set_cons_succ])
  refine wpAnyH_take (i := 16) (oi := { dst := some 48, op := Op.move (Operand.tmp 4), type := 3, pos := "text.go:70", after := #[], guard := none }) (v := ?_) rfl (by kernel_rfl) (by kernel_rfl) (by kernel_rfl) (fun _ _ _ h => h) (Or.inl ⟨by rfl, ?_⟩) (by assumption) ?_
  rotate_left
  · ((intro w hSw; (try dsimp only at hSw); go_simp); try with_reducible rfl)
  (try simp only [Act.put, List.setIfInBounds_toArray, List.set_cons_zero, List.set_cons_succ])
  refine wpAnyH_take (i := 17) (oi := { dst := some 49, op := Op.move (Operand.tmp 6), type := 3, pos := "text.go:70", after := #[], guard := none }) (v := ?_) rfl (by kernel_rfl) (by kernel_rfl) (by kernel_rfl) (fun _ _ _ h => h) (Or.inl ⟨by rfl, ?_⟩) (by assumption) ?_
  rotate_left
  · ((intro w hSw; (try dsimp only at hSw); go_simp); try with_reducible rfl)
  (try simp only [Act.put, List.setIfInBounds_toArray, List.set_cons_zero, List.set_cons_succ])
  have hS0 := hHeld
  refine wpAnyH_ready (rs := [4]) (by kernel_rfl) (by simp) ?_
  refine AllReadyH.cons (o := { dst := some 36, op := Op.call { callee := Callee.value (Operand.func 79), args := #[Operand.tmp 34, Operand.tmp 35], argTypes := #[9, 129] }, type := 29, pos := "text.go:71", after := #[{ on := 2, ground := Ground.data }, { on := 3, ground := Ground.data }], guard := none }) rfl (fun K hK => ?_) AllReadyH.nil
  go_simp
  refine (H0.out _ hS0.1).mono ?_
  rintro e w5 ⟨v0, rfl, ho0, hb⟩
  obtain ⟨a0, c0, rfl, hi0⟩ := own_at ho0
  have HB5 := Lib.hid (below_step hS0.1 hb)
  have HR5 := Lib.hid ((hb.block _ hl4).trans HR4.out)
  have hl5 := bx_lt HR5.out
  have HO0 := Lib.hid (OwnInts.mono ho0 (show w.heap.size + 2 ≤ w4.drew.heap.size from by have := World.block_lt_of_cell? _ _ hS0.2.1; simp only at this; omega))
  refine hK.out _ _ ⟨HB5.out, cell_keep hb hS0.2.1, cell_keep hb hS0.2.2.1, cell_keep hb hS0.2.2.2⟩ (fun hS1 => ?_)
  clear hK K hb ho0 hi0
  (try simp only [Act.put, List.setIfInBounds_toArray, List.set_cons_zero, List.set_cons_succ])
  refine wpAnyH_ready (rs := [9]) (by kernel_rfl) (by simp) ?_
  refine AllReadyH.cons (o := { dst := some 41, op := Op.call { callee := Callee.value (Operand.func 79), args := #[Operand.tmp 39, Operand.tmp 40], argTypes := #[9, 129] }, type := 29, pos := "text.go:72", after := #[{ on := 7, ground := Ground.data }, { on := 8, ground := Ground.data }, { on := 4, ground := Ground.chain }], guard := none }) rfl (fun K hK => ?_) AllReadyH.nil
  go_simp
  refine (H1.out _ hS1.1).mono ?_
  rintro e w6 ⟨v1, rfl, ho1, hb⟩
  obtain ⟨a1, c1, rfl, hi1⟩ := own_at ho1
  have HB6 := Lib.hid (below_step hS1.1 hb)
  have HR6 := Lib.hid ((hb.block _ hl5).trans HR5.out)
  have hl6 := bx_lt HR6.out
  have HO1 := Lib.hid (OwnInts.mono ho1 (show w.heap.size + 2 ≤ w5.heap.size from by have := World.block_lt_of_cell? _ _ hS1.2.1; simp only at this; omega))
  replace HO0 := Lib.hid (HO0.out.alters (S := fun _ => False) (Alters.of_below hb) (fun _ h => h.elim))
  refine hK.out _ _ ⟨HB6.out, cell_keep hb hS1.2.1, cell_keep hb hS1.2.2.1, cell_keep hb hS1.2.2.2⟩ (fun hS2 => ?_)
  clear hK K hb ho1 hi1
  (try simp only [Act.put, List.setIfInBounds_toArray, List.set_cons_zero, List.set_cons_succ])
  refine wpAnyH_ready (rs := [14]) (by kernel_rfl) (by simp) ?_
  refine AllReadyH.cons (o := { dst := some 46, op := Op.call { callee := Callee.value (Operand.func 79), args := #[Operand.tmp 44, Operand.tmp 45], argTypes := #[9, 129] }, type := 29, pos := "text.go:72", after := #[{ on := 12, ground := Ground.data }, { on := 13, ground := Ground.data }, { on := 9, ground := Ground.chain }], guard := none }) rfl (fun K hK => ?_) AllReadyH.nil
  go_simp
  refine (H2.out _ hS2.1).mono ?_
  rintro e w7 ⟨v2, rfl, ho2, hb⟩
  obtain ⟨a2, c2, rfl, hi2⟩ := own_at ho2
  have HB7 := Lib.hid (below_step hS2.1 hb)
  have HR7 := Lib.hid ((hb.block _ hl6).trans HR6.out)
  have hl7 := bx_lt HR7.out
  have HO2 := Lib.hid (OwnInts.mono ho2 (show w.heap.size + 2 ≤ w6.heap.size from by have := World.block_lt_of_cell? _ _ hS2.2.1; simp only at this; omega))
  replace HO0 := Lib.hid (HO0.out.alters (S := fun _ => False) (Alters.of_below hb) (fun _ h => h.elim))
  replace HO1 := Lib.hid (HO1.out.alters (S := fun _ => False) (Alters.of_below hb) (fun _ h => h.elim))
  refine hK.out _ _ ⟨HB7.out, cell_keep hb hS2.2.1, cell_keep hb hS2.2.2.1, cell_keep hb hS2.2.2.2⟩ (fun hS3 => ?_)
  clear hK K hb ho2 hi2
  (try simp only [Act.put, List.setIfInBounds_toArray, List.set_cons_zero, List.set_cons_succ])
  refine wpAnyH_take (i := 15) (oi := { dst := some 47, op := Op.build 30 #[(0, Operand.tmp 41), (1, Operand.tmp 46)], type := 30, pos := "text.go:70", after := #[{ on := 9, ground := Ground.data }, { on := 14, ground := Ground.data }], guard := none }) (v := ?_) rfl (by kernel_rfl) (by kernel_rfl) (by kernel_rfl) (fun _ _ _ h => h) (Or.inl ⟨by rfl, ?_⟩) (by assumption) ?_
  rotate_left
  · ((intro w hSw; (try dsimp only at hSw); go_simp); try with_reducible rfl)
  (try simp only [Act.put, List.setIfInBounds_toArray, List.set_cons_zero, List.set_cons_succ])
  refine wpAnyH_take (i := 18) (oi := { dst := some 50, op := Op.build 32 #[(0, Operand.tmp 36), (1, Operand.tmp 47), (2, Operand.tmp 48), (3, Operand.tmp 49)], type := 32, pos := "text.go:70", after := #[{ on := 4, ground := Ground.data }, { on := 15, ground := Ground.data }, { on := 16, ground := Ground.data }, { on := 17, ground := Ground.data }], guard := none }) (v := ?_) rfl (by kernel_rfl) (by kernel_rfl) (by kernel_rfl) (fun _ _ _ h => h) (Or.inl ⟨by rfl, ?_⟩) (by assumption) ?_
  rotate_left
  · ((intro w hSw; (try dsimp only at hSw); go_simp); try with_reducible rfl)
  (try simp only [Act.put, List.setIfInBounds_toArray, List.set_cons_zero, List.set_cons_succ])
  have z0 : w7.cell? ⟨w.heap.size, 0, none⟩ = some (.slice none 0 0) := bx_cell HR7.out 0 rfl
  have z1 : w7.cell? ⟨w.heap.size, 1, none⟩ = some (.slice none 0 0) := bx_cell HR7.out 1 rfl
  have z2 : w7.cell? ⟨w.heap.size, 2, none⟩ = some (.slice none 0 0) := bx_cell HR7.out 2 rfl
  have z3' : w7.cell? ⟨w.heap.size, 3, none⟩ = some (.int .i64 0) := bx_cell HR7.out 3 rfl
  have z4' : w7.cell? ⟨w.heap.size, 4, none⟩ = some (.int .i64 0) := bx_cell HR7.out 4 rfl
  have f0 := bx_frozen HR7.out 0
  have f1 := bx_frozen HR7.out 1
  have f2 := bx_frozen HR7.out 2
  have f3 := bx_frozen HR7.out 3
  have f4 := bx_frozen HR7.out 4
  refine wpAnyH_ready (rs := [19]) (by kernel_rfl) (by simp) ?_
  refine AllReadyH.cons (o := { dst := none, op := Op.store 32 (Operand.tmp 2) (Operand.tmp 50), type := 0, pos := "text.go:70", after := #[{ on := 18, ground := Ground.data }, { on := 14, ground := Ground.chain }, { on := 0, ground := Ground.phase }, { on := 1, ground := Ground.phase }, { on := 2, ground := Ground.phase }, { on := 3, ground := Ground.phase }, { on := 4, ground := Ground.phase }, { on := 5, ground := Ground.phase }, { on := 6, ground := Ground.phase }, { on := 7, ground := Ground.phase }, { on := 8, ground := Ground.phase }, { on := 9, ground := Ground.phase }, { on := 10, ground := Ground.phase }, { on := 11, ground := Ground.phase }, { on := 12, ground := Ground.phase }, { on := 13, ground := Ground.phase }, { on := 14, ground := Ground.phase }, { on := 15, ground := Ground.phase }, { on := 16, ground := Ground.phase }, { on := 17, ground := Ground.phase }, { on := 18, ground := Ground.phase }], guard := none }) rfl (fun K hK => ?_) AllReadyH.nil
  go_simp
  have hfold : (((((w7.setCell ⟨w.heap.size, 0, none⟩ (.slice a0 n0.length c0)).setCell ⟨w.heap.size, 1, none⟩ (.slice a1 n1.length c1)).setCell ⟨w.heap.size, 2, none⟩ (.slice a2 n2.length c2)).setCell ⟨w.heap.size, 3, none⟩ (.int .i64 z3)).setCell ⟨w.heap.size, 4, none⟩ (.int .i64 z4)) = set5 w7 w.heap.size (.slice a0 n0.length c0) (.slice a1 n1.length c1) (.slice a2 n2.length c2) (.int .i64 z3) (.int .i64 z4) := rfl
  rw [hfold]
  have hb8 : Below w.heap.size w (set5 w7 w.heap.size (.slice a0 n0.length c0) (.slice a1 n1.length c1) (.slice a2 n2.length c2) (.int .i64 z3) (.int .i64 z4)) := HB7.out.trans ((set5_alters _ _ _ _ _ _ _).below (Nat.le_of_lt hl7) (fun k hk => Nat.le_of_eq (Eq.symm hk)))
  have hX := set5_block HR7.out (.slice a0 n0.length c0) (.slice a1 n1.length c1) (.slice a2 n2.length c2) (.int .i64 z3) (.int .i64 z4)
  have ho0 := set5_own HO0.out (b := w.heap.size) (by omega) (.slice a0 n0.length c0) (.slice a1 n1.length c1) (.slice a2 n2.length c2) (.int .i64 z3) (.int .i64 z4)
  have ho1 := set5_own HO1.out (b := w.heap.size) (by omega) (.slice a0 n0.length c0) (.slice a1 n1.length c1) (.slice a2 n2.length c2) (.int .i64 z3) (.int .i64 z4)
  have ho2 := set5_own HO2.out (b := w.heap.size) (by omega) (.slice a0 n0.length c0) (.slice a1 n1.length c1) (.slice a2 n2.length c2) (.int .i64 z3) (.int .i64 z4)
  have hs1 := set5_cell hS3.2.1 (b := w.heap.size) (by simp) (.slice a0 n0.length c0) (.slice a1 n1.length c1) (.slice a2 n2.length c2) (.int .i64 z3) (.int .i64 z4)
  have hs2 := set5_cell hS3.2.2.1 (b := w.heap.size) (by simp) (.slice a0 n0.length c0) (.slice a1 n1.length c1) (.slice a2 n2.length c2) (.int .i64 z3) (.int .i64 z4)
  have hs3 := set5_cell hS3.2.2.2 (b := w.heap.size) (by simp) (.slice a0 n0.length c0) (.slice a1 n1.length c1) (.slice a2 n2.length c2) (.int .i64 z3) (.int .i64 z4)
  generalize set5 w7 w.heap.size (.slice a0 n0.length c0) (.slice a1 n1.length c1) (.slice a2 n2.length c2) (.int .i64 z3) (.int .i64 z4) = w8 at *
  refine hK.out _ _ ⟨hb8, hs1, hs2, hs3⟩ (fun _ => ?_)
  clear hK K z0 z1 z2 z3' z4' f0 f1 f2 f3 f4
  (try simp only [Act.put, List.setIfInBounds_toArray, List.set_cons_zero, List.set_cons_succ])
  refine wpAnyH_done (by kernel_rfl) ?_ _
  refine NoPanic.normal ?_
  go_wp2
  refine bodyPost_ret_by (v := .agg #[.slice a0 n0.length c0, .slice a1 n1.length c1, .slice a2 n2.length c2, .int .i64 z3, .int .i64 z4]) (results_cell_row rfl _ _ w.heap.size 32 _ (0, 0) _ rfl hX Tryz.underlying32 rfl info_pos) rfl ?_
  rw [HZ3.out, HZ4.out]
  exact ⟨_, _, _, _, _, _, rfl, ⟨OwnInts.mono ho0 (by omega), OwnInts.mono ho1 (by omega), OwnInts.mono ho2 (by omega)⟩, hb8⟩

theorem PosOwn.in_ {n : Nat} {W : World} {a a0 a1 : Option Addr} {c c0 c1 : Nat} {p : PosS} (h : PosOwn n W a a0 a1 c c0 c1 p) : PosIn W.heap.size W a a0 a1 p := by
  obtain ⟨h0, h1, h2⟩ := h
  obtain ⟨x0, y0, e0, i0⟩ := own_at h0
  obtain ⟨x1, y1, e1, i1⟩ := own_at h1
  obtain ⟨x2, y2, e2, i2⟩ := own_at h2
  cases e0
  cases e1
  cases e2
  exact ⟨i0, i1, i2⟩
theorem PosOwn.up {n : Nat} {W W' : World} {a a0 a1 : Option Addr} {c c0 c1 : Nat} {p : PosS} (h : PosOwn n W a a0 a1 c c0 c1 p) (hb : Below W.heap.size W W') : PosOwn n W' a a0 a1 c c0 c1 p :=
  ⟨h.cells.alters (S := fun _ => False) (Alters.of_below hb) (fun _ h => h.elim), h.h0.alters (S := fun _ => False) (Alters.of_below hb) (fun _ h => h.elim), h.h1.alters (S := fun _ => False) (Alters.of_below hb) (fun _ h => h.elim)⟩
theorem PosOwn.set5 {n b : Nat} {W : World} {a a0 a1 : Option Addr} {c c0 c1 : Nat} {p : PosS} (h : PosOwn n W a a0 a1 c c0 c1 p) (hb : b < n) (u0 u1 u2 u3 u4 : Value) : PosOwn n (set5 W b u0 u1 u2 u3 u4) a a0 a1 c c0 c1 p :=
  ⟨set5_own h.cells hb _ _ _ _ _, set5_own h.h0 hb _ _ _ _ _, set5_own h.h1 hb _ _ _ _ _⟩
theorem PosOwn.mono {n m : Nat} {W : World} {a a0 a1 : Option Addr} {c c0 c1 : Nat} {p : PosS} (h : PosOwn n W a a0 a1 c c0 c1 p) (hm : m ≤ n) : PosOwn m W a a0 a1 c c0 c1 p := ⟨h.cells.mono hm, h.h0.mono hm, h.h1.mono hm⟩
end Go.Proofs.YtphhkfelpckilaaGreatDoor
