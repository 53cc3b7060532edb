/-
  Of the reference: Word, for steps with small numbers.
-/
import Derived.Test.YtidgdfjnjgonoaaGreatDoorPRefM
import Derived.Deep.RegionHeld3
import Derived.Laws.BytesArg
import Derived.IntWalk
namespace Go.Proofs.YtidgdfjnjgonoaaGreatDoor
open Go Go.RowKit Go.Sort Go.Lib

theorem rword_len (op n : Nat) : (rwordS ((op : Int), (n : Int))).length ≤ 7 := by
  have := word_len op
  unfold rwordS
  rw [Int.toNat_natCast, List.length_append]
  split <;> simp <;> omega
theorem dig_byte (n : Nat) (h : n < 8) : (IntKind.u8.wrap (48 + (n : Int))) = 48 + (n : Int) := by
  have : n = 0 ∨ n = 1 ∨ n = 2 ∨ n = 3 ∨ n = 4 ∨ n = 5 ∨ n = 6 ∨ n = 7 := by omega
  rcases this with rfl | rfl | rfl | rfl | rfl | rfl | rfl | rfl <;> decide
theorem one_byte (n : Nat) (W : World) (b : Nat) (h : W.cell? ⟨b, 0, none⟩ = some (.int .u8 (48 + (n : Int)))) :
    (convert 22 9 (.slice (some ⟨b, 0, none⟩) 1 1)).run Tryz.prog W = .ok (.string ⟨#[UInt8.ofNat (48 + n)]⟩) W := by
  have hr := run_convert_bytes_arg (P := Tryz.prog) W 22 5 Tryz.underlying22 Tryz.underlying5 b 0 1 1 [48 + (n : Int)] rfl (fun i hi => by
    obtain rfl : i = 0 := by omega
    simpa using h) 9 Tryz.underlying9
  rw [hr]
  have e : (48 + (n : Int)).toNat = 48 + n := by omega
  simp [strOfNums, e]

set_option maxRecDepth 100000 in
set_option maxHeartbeats 2000000 in
theorem rword_any (op n : Nat) (w : World) (h11 : op < 11) (h8 : n < 8) :
    Calls Tryz.prog 40 #[.agg #[.int .i64 op, .int .i64 n]] w fun e w' => e = .returned (strV (rwordS ((op : Int), (n : Int)))) ∧ Below w.heap.size w w' := by
  have hval : rwordS ((op : Int), (n : Int)) = wordL[op]?.getD [] ++ if 3 ≤ op ∧ op ≤ 6 then [] else [UInt8.ofNat (48 + n)] := by
    unfold rwordS
    rw [Int.toNat_natCast, Int.toNat_natCast]
    congr 1
    by_cases h : 3 ≤ op ∧ op ≤ 6
    · rw [if_pos h, if_pos (by omega)]
    · rw [if_neg h, if_neg (by omega)]
  rw [hval]
  clear hval
  generalize hR : (wordL[op]?.getD [] ++ if 3 ≤ op ∧ op ≤ 6 then [] else [UInt8.ofNat (48 + n)]) = R
  have HR0 := Lib.hid hR
  clear hR
  have hwl : (wordL[op]?.getD []).length ≤ 6 := word_len op
  go_enter Tryz.func40, Tryz.ntmps40
  go_upto_region 2 with (fail)
  have x0 : ((w.alloc (.cells #[.int .i64 op, .int .i64 n] 41)).alloc (.cells #[.string ⟨#[]⟩, .string ⟨#[103, 111]⟩, .string ⟨#[115, 108, 105, 100, 101]⟩, .string ⟨#[101, 109, 112, 116, 121]⟩, .string ⟨#[101, 110, 101, 109, 121]⟩, .string ⟨#[102, 114, 105, 101, 110, 100]⟩, .string ⟨#[116, 97, 107, 101]⟩, .string ⟨#[112, 117, 115, 104]⟩, .string ⟨#[98, 101, 99, 111, 109, 101]⟩, .string ⟨#[110, 101, 101, 100]⟩, .string ⟨#[108, 111, 115, 101]⟩] 9)).cell? ⟨w.heap.size, 0, none⟩ = some (.int .i64 op) := cell_alloc_keep (cell_new_at _ _ _ _ _ _ rfl rfl) _
  have x1 : ((w.alloc (.cells #[.int .i64 op, .int .i64 n] 41)).alloc (.cells #[.string ⟨#[]⟩, .string ⟨#[103, 111]⟩, .string ⟨#[115, 108, 105, 100, 101]⟩, .string ⟨#[101, 109, 112, 116, 121]⟩, .string ⟨#[101, 110, 101, 109, 121]⟩, .string ⟨#[102, 114, 105, 101, 110, 100]⟩, .string ⟨#[116, 97, 107, 101]⟩, .string ⟨#[112, 117, 115, 104]⟩, .string ⟨#[98, 101, 99, 111, 109, 101]⟩, .string ⟨#[110, 101, 101, 100]⟩, .string ⟨#[108, 111, 115, 101]⟩] 9)).cell? ⟨w.heap.size, 1, none⟩ = some (.int .i64 n) := cell_alloc_keep (cell_new_at _ _ _ _ _ _ rfl rfl) _
  have xs : ((w.alloc (.cells #[.int .i64 op, .int .i64 n] 41)).alloc (.cells #[.string ⟨#[]⟩, .string ⟨#[103, 111]⟩, .string ⟨#[115, 108, 105, 100, 101]⟩, .string ⟨#[101, 109, 112, 116, 121]⟩, .string ⟨#[101, 110, 101, 109, 121]⟩, .string ⟨#[102, 114, 105, 101, 110, 100]⟩, .string ⟨#[116, 97, 107, 101]⟩, .string ⟨#[112, 117, 115, 104]⟩, .string ⟨#[98, 101, 99, 111, 109, 101]⟩, .string ⟨#[110, 101, 101, 100]⟩, .string ⟨#[108, 111, 115, 101]⟩] 9)).cell? ⟨w.heap.size + 1, op, none⟩ = some (.string ⟨(wordL[op]?.getD []).toArray⟩) := by
    have : op = 0 ∨ op = 1 ∨ op = 2 ∨ op = 3 ∨ op = 4 ∨ op = 5 ∨ op = 6 ∨ op = 7 ∨ op = 8 ∨ op = 9 ∨ op = 10 := by omega
    rcases this with rfl | rfl | rfl | rfl | rfl | rfl | rfl | rfl | rfl | rfl | rfl <;> exact cell_new_at _ _ _ _ _ _ (by simp) rfl
  have hb : Below w.heap.size w ((w.alloc (.cells #[.int .i64 op, .int .i64 n] 41)).alloc (.cells #[.string ⟨#[]⟩, .string ⟨#[103, 111]⟩, .string ⟨#[115, 108, 105, 100, 101]⟩, .string ⟨#[101, 109, 112, 116, 121]⟩, .string ⟨#[101, 110, 101, 109, 121]⟩, .string ⟨#[102, 114, 105, 101, 110, 100]⟩, .string ⟨#[116, 97, 107, 101]⟩, .string ⟨#[112, 117, 115, 104]⟩, .string ⟨#[98, 101, 99, 111, 109, 101]⟩, .string ⟨#[110, 101, 101, 100]⟩, .string ⟨#[108, 111, 115, 101]⟩] 9)) := below_alloc (below_alloc (Below.refl _ _) _) _
  generalize (w.alloc (.cells #[.int .i64 op, .int .i64 n] 41)).alloc (.cells #[.string ⟨#[]⟩, .string ⟨#[103, 111]⟩, .string ⟨#[115, 108, 105, 100, 101]⟩, .string ⟨#[101, 109, 112, 116, 121]⟩, .string ⟨#[101, 110, 101, 109, 121]⟩, .string ⟨#[102, 114, 105, 101, 110, 100]⟩, .string ⟨#[116, 97, 107, 101]⟩, .string ⟨#[112, 117, 115, 104]⟩, .string ⟨#[98, 101, 99, 111, 109, 101]⟩, .string ⟨#[110, 101, 101, 100]⟩, .string ⟨#[108, 111, 115, 101]⟩] 9 ) = w1 at *
  generalize wordL[op]?.getD [] = wd at *
  have l0 := World.block_lt_of_cell? _ _ x0
  have ls := World.block_lt_of_cell? _ _ xs
  have h11' : (op : Int) < 11 := by omega
  by_cases h36 : 3 ≤ op ∧ op ≤ 6
  · obtain ⟨h3, h6⟩ := h36
    have t1 : decide (3 ≤ (op : Int)) = true := by simp; omega
    have t2 : decide ((op : Int) ≤ 6) = true := by simp; omega
    have HR := Lib.hid (show R = wd by rw [← HR0.out, if_pos ⟨h3, h6⟩, List.append_nil])
    clear h3 h6 HR0
    go_wp2
    go_ret
    exact ⟨by rw [HR.out]; rfl, hb⟩
  · have HR := Lib.hid (show R = wd ++ [UInt8.ofNat (48 + n)] by rw [← HR0.out, if_neg h36])
    have hcv := one_byte n
    have hs48 := IntWalk.i64_in (48 + (n : Int)) (by omega)
    have hd := dig_byte n h8
    obtain ⟨z, hz⟩ : ∃ z : Int, z = 48 + (n : Int) := ⟨_, rfl⟩
    generalize UInt8.ofNat (48 + n) = y at hcv HR
    simp only [← hz] at hcv
    rw [← hz] at hd
    replace hs48 : IntKind.i64.wrap (48 + (n : Int)) = z := by rw [hz]; exact hs48
    have HZ := Lib.hid hz
    clear hz
    have hsum : ¬ 9223372036854775807 < wd.length + 1 := by omega
    have hcase : decide (3 ≤ (op : Int)) = false ∨ (decide (3 ≤ (op : Int)) = true ∧ decide ((op : Int) ≤ 6) = false) := by
      by_cases h3 : 3 ≤ op
      · right; constructor
        · simp; omega
        · simp; omega
      · left; simp; omega
    clear h36 HR0
    rcases hcase with t1 | ⟨t1, t2⟩
    all_goals
      go_upto_region 4 with (fail)
      refine wp_region_noPanic ?_
      refine wp_region_held_drew (S := fun w' => w'.cell? ⟨w.heap.size, 0, none⟩ = some (.int .i64 op) ∧ w'.cell? ⟨w.heap.size, 1, none⟩ = some (.int .i64 n) ∧ w'.cell? ⟨w.heap.size + 1, op, none⟩ = some (.string ⟨wd.toArray⟩) ∧ Below w1.heap.size w1 w') (by kernel_rfl) ⟨x0, x1, xs, (Below.refl _ _).drew⟩ (fun hHeld => ?_)
      refine wpAnyH_take (i := 0) (oi := { dst := some 18, op := Op.move (Operand.tmp 3), type := 48, pos := "ref.go:91", after := #[], guard := none }) (v := ?_) rfl (by kernel_rfl) (by kernel_rfl) (by kernel_rfl) (fun _ _ _ h => h) (Or.inl ⟨by rfl, ?_⟩) (by assumption) ?_
      rotate_left
      · ((intro w hSw; (try dsimp only at hSw); go_simp); try with_reducible rfl)
      (try simp only [Act.put, List.setIfInBounds_toArray, List.set_cons_zero, List.set_cons_succ])
      refine wpAnyH_take (i := 1) (oi := { dst := some 19, op := Op.fieldAddr 41 (Operand.tmp 1) 0, type := 0, pos := "ref.go:91", after := #[], guard := none }) (v := ?_) rfl (by kernel_rfl) (by kernel_rfl) (by kernel_rfl) (fun _ _ _ h => h) (Or.inl ⟨by rfl, ?_⟩) (by assumption) ?_
      rotate_left
      · ((intro w hSw; (try dsimp only at hSw); go_simp); try with_reducible rfl)
      (try simp only [Act.put, List.setIfInBounds_toArray, List.set_cons_zero, List.set_cons_succ])
      refine wpAnyH_take (i := 2) (oi := { dst := some 20, op := Op.load 3 (Operand.tmp 19), type := 3, pos := "ref.go:91", after := #[{ on := 1, ground := Ground.data }], guard := none }) (v := ?_) rfl (by kernel_rfl) (by kernel_rfl) (by kernel_rfl) (fun _ _ _ h => h) (Or.inl ⟨by rfl, ?_⟩) (by assumption) ?_
      rotate_left
      · ((intro w hSw; (try dsimp only at hSw); go_simp); try with_reducible rfl)
      (try simp only [Act.put, List.setIfInBounds_toArray, List.set_cons_zero, List.set_cons_succ])
      refine wpAnyH_take (i := 3) (oi := { dst := some 21, op := Op.indexAddr 48 (Operand.tmp 18) (Operand.tmp 20), type := 0, pos := "ref.go:91", after := #[{ on := 0, ground := Ground.data }, { on := 2, ground := Ground.data }], guard := none }) (v := ?_) rfl (by kernel_rfl) (by kernel_rfl) (by kernel_rfl) (fun _ _ _ h => h) (Or.inl ⟨by rfl, ?_⟩) (by assumption) ?_
      rotate_left
      · ((intro w hSw; (try dsimp only at hSw); go_simp); try with_reducible rfl)
      (try simp only [Act.put, List.setIfInBounds_toArray, List.set_cons_zero, List.set_cons_succ])
      refine wpAnyH_take (i := 4) (oi := { dst := some 22, op := Op.load 9 (Operand.tmp 21), type := 9, pos := "ref.go:91", after := #[{ on := 3, ground := Ground.data }], guard := none }) (v := ?_) rfl (by kernel_rfl) (by kernel_rfl) (by kernel_rfl) (fun _ _ _ h => h) (Or.inl ⟨by rfl, ?_⟩) (by assumption) ?_
      rotate_left
      · ((intro w hSw; (try dsimp only at hSw); go_simp); try with_reducible rfl)
      (try simp only [Act.put, List.setIfInBounds_toArray, List.set_cons_zero, List.set_cons_succ])
      refine wpAnyH_take (i := 5) (oi := { dst := some 23, op := Op.fieldAddr 41 (Operand.tmp 1) 1, type := 0, pos := "ref.go:91", after := #[], guard := none }) (v := ?_) rfl (by kernel_rfl) (by kernel_rfl) (by kernel_rfl) (fun _ _ _ h => h) (Or.inl ⟨by rfl, ?_⟩) (by assumption) ?_
      rotate_left
      · ((intro w hSw; (try dsimp only at hSw); go_simp); try with_reducible rfl)
      (try simp only [Act.put, List.setIfInBounds_toArray, List.set_cons_zero, List.set_cons_succ])
      refine wpAnyH_take (i := 6) (oi := { dst := some 24, op := Op.load 3 (Operand.tmp 23), type := 3, pos := "ref.go:91", after := #[{ on := 5, ground := Ground.data }], guard := none }) (v := ?_) rfl (by kernel_rfl) (by kernel_rfl) (by kernel_rfl) (fun _ _ _ h => h) (Or.inl ⟨by rfl, ?_⟩) (by assumption) ?_
      rotate_left
      · ((intro w hSw; (try dsimp only at hSw); go_simp); try with_reducible rfl)
      (try simp only [Act.put, List.setIfInBounds_toArray, List.set_cons_zero, List.set_cons_succ])
      refine wpAnyH_take (i := 7) (oi := { dst := some 25, op := Op.binOp BinOp.add 3 (Operand.const (Value.int IntKind.i64 48)) (Operand.tmp 24) 3, type := 3, pos := "ref.go:91", after := #[{ on := 6, ground := Ground.data }], guard := none }) (v := ?_) rfl (by kernel_rfl) (by kernel_rfl) (by kernel_rfl) (fun _ _ _ h => h) (Or.inl ⟨by rfl, ?_⟩) (by assumption) ?_
      rotate_left
      · ((intro w hSw; (try dsimp only at hSw); go_simp); try with_reducible rfl)
      (try simp only [Act.put, List.setIfInBounds_toArray, List.set_cons_zero, List.set_cons_succ])
      refine wpAnyH_take (i := 8) (oi := { dst := some 26, op := Op.convert 3 5 (Operand.tmp 25), type := 5, pos := "ref.go:91", after := #[{ on := 7, ground := Ground.data }], guard := none }) (v := ?_) rfl (by kernel_rfl) (by kernel_rfl) (by kernel_rfl) (fun _ _ _ h => h) (Or.inl ⟨by rfl, ?_⟩) (by assumption) ?_
      rotate_left
      · ((intro w hSw; (try dsimp only at hSw); go_simp); try with_reducible rfl)
      (try simp only [Act.put, List.setIfInBounds_toArray, List.set_cons_zero, List.set_cons_succ])
      refine wpAnyH_ready (rs := [9]) (by kernel_rfl) (by simp) ?_
      refine AllReadyH.cons (o := { dst := some 27, op := Op.buildSlice 22 1 #[(0, Operand.tmp 26)], type := 22, pos := "ref.go:91", after := #[{ on := 8, ground := Ground.data }], guard := none }) rfl (fun K hK => ?_) AllReadyH.nil
      go_simp
      have hb9 : Below w1.heap.size w1 (w1.alloc (.cells #[.int .u8 z] 5)).drew := (below_alloc (Below.refl _ _) _).drew
      refine hK.out _ _ ⟨cell_keep hb9 x0, cell_keep hb9 x1, cell_keep hb9 xs, hb9⟩ (fun hS9 => ?_)
      clear hK K
      (try simp only [Act.put, List.setIfInBounds_toArray, List.set_cons_zero, List.set_cons_succ])
      refine wpAnyH_ready (rs := [10]) (by kernel_rfl) (by simp) ?_
      refine AllReadyH.cons (o := { dst := some 28, op := Op.convert 22 9 (Operand.tmp 27), type := 9, pos := "ref.go:91", after := #[{ on := 9, ground := Ground.data }], guard := none }) rfl (fun K hK => ?_) AllReadyH.nil
      go_simp
      refine hK.out _ _ hS9 (fun hS10 => ?_)
      clear hK K
      (try simp only [Act.put, List.setIfInBounds_toArray, List.set_cons_zero, List.set_cons_succ])
      refine wpAnyH_take (i := 11) (oi := { dst := some 29, op := Op.binOp BinOp.add 9 (Operand.tmp 22) (Operand.tmp 28) 9, type := 9, pos := "ref.go:91", after := #[{ on := 4, ground := Ground.data }, { on := 10, ground := Ground.data }], guard := none }) (v := ?_) rfl (by kernel_rfl) (by kernel_rfl) (by kernel_rfl) (fun _ _ _ h => h) (Or.inl ⟨by rfl, ?_⟩) (by assumption) ?_
      rotate_left
      · ((intro w hSw; (try dsimp only at hSw); go_simp); try with_reducible rfl)
      (try simp only [Act.put, List.setIfInBounds_toArray, List.set_cons_zero, List.set_cons_succ])
      refine wpAnyH_take (i := 12) (oi := { dst := some 2, op := Op.assign (Operand.tmp 29), type := 9, pos := "ref.go:91", after := #[{ on := 11, ground := Ground.data }, { on := 0, ground := Ground.phase }, { on := 1, ground := Ground.phase }, { on := 2, ground := Ground.phase }, { on := 3, ground := Ground.phase }, { on := 4, ground := Ground.phase }, { on := 5, ground := Ground.phase }, { on := 6, ground := Ground.phase }, { on := 7, ground := Ground.phase }, { on := 8, ground := Ground.phase }, { on := 9, ground := Ground.phase }, { on := 10, ground := Ground.phase }, { on := 11, ground := Ground.phase }], guard := none }) (v := ?_) rfl (by kernel_rfl) (by kernel_rfl) (by kernel_rfl) (fun _ _ _ h => h) (Or.inl ⟨by rfl, ?_⟩) (by assumption) ?_
      rotate_left
      · ((intro w hSw; (try dsimp only at hSw); go_simp); try with_reducible rfl)
      (try simp only [Act.put, List.setIfInBounds_toArray, List.set_cons_zero, List.set_cons_succ])
      refine wpAnyH_done (by kernel_rfl) ?_ _
      refine NoPanic.normal ?_
      go_wp2
      go_ret
      exact ⟨by rw [HR.out]; rfl, below_step hb (by first | assumption | ((repeat (first | exact Below.refl _ _ | assumption | refine below_alloc ?_ _ | refine Below.drew ?_ | refine below_drewN_ ?_ _ | refine below_step ?_ (by assumption))); done))⟩
end Go.Proofs.YtidgdfjnjgonoaaGreatDoor
