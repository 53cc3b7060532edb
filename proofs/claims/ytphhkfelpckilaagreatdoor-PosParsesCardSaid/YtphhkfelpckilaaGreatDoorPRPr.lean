/-
  Of the reference: sign, decimal, Print, for numbers that made positions have.
-/
import Derived.Test.YtphhkfelpckilaaGreatDoorGPos
import Derived.Laws.BytesArg
import Derived.Test.YtphhkfelpckilaaGreatDoorDKeyT
import Derived.Deep.Upon
namespace Go.Proofs.YtphhkfelpckilaaGreatDoor
open Go Go.RowKit

theorem conv1 (x : Int) (w : World) : (convert 22 9 (.slice (some ⟨w.heap.size, 0, none⟩) 1 1)).run Tryz.prog (w.alloc (.cells #[.int .u8 x] 5)) = .ok (.string (strOfNums [x])) (w.alloc (.cells #[.int .u8 x] 5)) :=
  run_convert_bytes_arg (P := Tryz.prog) _ 22 5 Tryz.underlying22 Tryz.underlying5 w.heap.size 0 1 1 [x] rfl (fun i hi => by
    obtain rfl : i = 0 := by omega
    exact cell_new_at _ _ _ _ _ _ rfl rfl) 9 Tryz.underlying9
def Sgl (s : List UInt8) (w : World) (e : Ending) (w' : World) : Prop := e = .returned (.string ⟨s.toArray⟩) ∧ Below w.heap.size w w'
set_option maxRecDepth 100000 in
set_option maxHeartbeats 800000 in
theorem rsign_any (n : Int) (h : 0 ≤ n ∧ n ≤ 4) (w : World) : Calls Tryz.prog 59 #[.int .i64 n] w (Sgl (signS contS n) w) := by
  rcases (show n = 0 ∨ n = 1 ∨ n = 2 ∨ n = 3 ∨ n = 4 by omega) with rfl | rfl | rfl | rfl | rfl
  · go_enter Tryz.func59, Tryz.ntmps59
    go_wp2
    go_ret
    exact ⟨rfl, Below.refl _ _⟩
  · have hc := conv1 65 w
    rw [show strOfNums [65] = ⟨#[65]⟩ from rfl] at hc
    go_enter Tryz.func59, Tryz.ntmps59
    go_wp2
    go_ret
    exact ⟨rfl, below_alloc (Below.refl _ _) _⟩
  · have hc := conv1 97 w
    rw [show strOfNums [97] = ⟨#[97]⟩ from rfl] at hc
    go_enter Tryz.func59, Tryz.ntmps59
    go_wp2
    go_ret
    exact ⟨rfl, below_alloc (Below.refl _ _) _⟩
  · have hc := conv1 66 w
    rw [show strOfNums [66] = ⟨#[66]⟩ from rfl] at hc
    go_enter Tryz.func59, Tryz.ntmps59
    go_wp2
    go_ret
    exact ⟨rfl, below_alloc (Below.refl _ _) _⟩
  · have hc := conv1 98 w
    rw [show strOfNums [98] = ⟨#[98]⟩ from rfl] at hc
    go_enter Tryz.func59, Tryz.ntmps59
    go_wp2
    go_ret
    exact ⟨rfl, below_alloc (Below.refl _ _) _⟩
set_option maxRecDepth 100000 in
set_option maxHeartbeats 800000 in
theorem rdec_any (n : Int) (h : 0 ≤ n ∧ n ≤ 8) (w : World) : Calls Tryz.prog 60 #[.int .i64 n] w (Sgl (signS digS n) w) := by
  rcases (show n = 0 ∨ n = 1 ∨ n = 2 ∨ n = 3 ∨ n = 4 ∨ n = 5 ∨ n = 6 ∨ n = 7 ∨ n = 8 by omega) with rfl | rfl | rfl | rfl | rfl | rfl | rfl | rfl | rfl
  · have hc := conv1 48 w
    rw [show strOfNums [48] = ⟨#[48]⟩ from rfl] at hc
    go_enter Tryz.func60, Tryz.ntmps60
    go_wp2
    go_ret
    exact ⟨rfl, below_alloc (Below.refl _ _) _⟩
  · have hc := conv1 49 w
    rw [show strOfNums [49] = ⟨#[49]⟩ from rfl] at hc
    go_enter Tryz.func60, Tryz.ntmps60
    go_wp2
    go_ret
    exact ⟨rfl, below_alloc (Below.refl _ _) _⟩
  · have hc := conv1 50 w
    rw [show strOfNums [50] = ⟨#[50]⟩ from rfl] at hc
    go_enter Tryz.func60, Tryz.ntmps60
    go_wp2
    go_ret
    exact ⟨rfl, below_alloc (Below.refl _ _) _⟩
  · have hc := conv1 51 w
    rw [show strOfNums [51] = ⟨#[51]⟩ from rfl] at hc
    go_enter Tryz.func60, Tryz.ntmps60
    go_wp2
    go_ret
    exact ⟨rfl, below_alloc (Below.refl _ _) _⟩
  · have hc := conv1 52 w
    rw [show strOfNums [52] = ⟨#[52]⟩ from rfl] at hc
    go_enter Tryz.func60, Tryz.ntmps60
    go_wp2
    go_ret
    exact ⟨rfl, below_alloc (Below.refl _ _) _⟩
  · have hc := conv1 53 w
    rw [show strOfNums [53] = ⟨#[53]⟩ from rfl] at hc
    go_enter Tryz.func60, Tryz.ntmps60
    go_wp2
    go_ret
    exact ⟨rfl, below_alloc (Below.refl _ _) _⟩
  · have hc := conv1 54 w
    rw [show strOfNums [54] = ⟨#[54]⟩ from rfl] at hc
    go_enter Tryz.func60, Tryz.ntmps60
    go_wp2
    go_ret
    exact ⟨rfl, below_alloc (Below.refl _ _) _⟩
  · have hc := conv1 55 w
    rw [show strOfNums [55] = ⟨#[55]⟩ from rfl] at hc
    go_enter Tryz.func60, Tryz.ntmps60
    go_wp2
    go_ret
    exact ⟨rfl, below_alloc (Below.refl _ _) _⟩
  · have hc := conv1 56 w
    rw [show strOfNums [56] = ⟨#[56]⟩ from rfl] at hc
    go_enter Tryz.func60, Tryz.ntmps60
    go_wp2
    go_ret
    exact ⟨rfl, below_alloc (Below.refl _ _) _⟩
theorem dec_itoa (n : Int) (h : 0 ≤ n ∧ n ≤ 8) : Lib.itoa n = signS digS n := by
  rcases (show n = 0 ∨ n = 1 ∨ n = 2 ∨ n = 3 ∨ n = 4 ∨ n = 5 ∨ n = 6 ∨ n = 7 ∨ n = 8 by omega) with rfl | rfl | rfl | rfl | rfl | rfl | rfl | rfl | rfl <;> decide +kernel
theorem str_add (a b : List UInt8) : (⟨a.toArray⟩ : ByteArray) ++ ⟨b.toArray⟩ = ⟨(a ++ b).toArray⟩ := by
  apply ByteArray.ext
  simp [ByteArray.data_append]
/-- Numbers that a made position has. -/
structure PosLow (p : PosS) : Prop where
  cells : ∀ i : Nat, 0 ≤ p.cells[i]?.getD 0 ∧ p.cells[i]?.getD 0 ≤ 4
  h0 : ∀ i : Nat, 0 ≤ p.h0[i]?.getD 0 ∧ p.h0[i]?.getD 0 ≤ 8
  h1 : ∀ i : Nat, 0 ≤ p.h1[i]?.getD 0 ∧ p.h1[i]?.getD 0 ≤ 8
  rights : 0 ≤ p.rights ∧ p.rights ≤ 3
  side : 0 ≤ p.side ∧ p.side ≤ 1
  lc : p.cells.length ≤ 9
  l0 : p.h0.length ≤ 2
  l1 : p.h1.length ≤ 2
def pt (p : PosS) : Nat → List UInt8
  | 0 => signsS contS p.cells
  | 1 => (signsS contS p.cells ++ [47]) ++ signsS digS p.h0
  | _ => (((signsS contS p.cells ++ [47]) ++ signsS digS p.h0) ++ [47]) ++ signsS digS p.h1
theorem pt_len {p : PosS} (hc : p.cells.length ≤ 9) (h0 : p.h0.length ≤ 2) (h1 : p.h1.length ≤ 2) (s : Nat) (hs : s ≤ 2) : (pt p s).length ≤ 20 := by
  have a0 := signsS_len contS p.cells
  have a1 := signsS_len digS p.h0
  have a2 := signsS_len digS p.h1
  rcases (show s = 0 ∨ s = 1 ∨ s = 2 by omega) with rfl | rfl | rfl <;> simp only [pt, List.length_append, List.length_cons, List.length_nil] <;> omega
theorem text_pt {p : PosS} (hp : PosLow p) : ((((pt p 2 ++ [47]) ++ signS digS p.rights) ++ [47]) ++ signS digS p.side) = textP p := by
  unfold textP
  rw [dec_itoa p.rights ⟨hp.rights.1, by have := hp.rights.2; omega⟩, dec_itoa p.side ⟨hp.side.1, by have := hp.side.2; omega⟩]
  simp [pt, Lib.join]
/-- The box of a position, its last two numbers. -/
structure RPc (w : World) (q : Nat) (r d : Int) (W : World) : Prop where
  b : Below w.heap.size w W
  c3 : W.cell? ⟨q, 3, none⟩ = some (.int .i64 r)
  c4 : W.cell? ⟨q, 4, none⟩ = some (.int .i64 d)
theorem RPc.up {w W W' : World} {q : Nat} {r d : Int} (h : RPc w q r d W) (hb : Below W.heap.size W W') : RPc w q r d W' := ⟨below_step h.b hb, cell_keep hb h.c3, cell_keep hb h.c4⟩
set_option maxRecDepth 100000 in
set_option maxHeartbeats 1500000 in
theorem rprint_any (g0 g1 g2 g3 g4 g5 g6 g7 g8 : Value) (p : PosS) (b b0 b1 : Option Addr) (c c0 c1 N : Nat) (w : World) (hp : PosLow p) (hN : N ≤ w.heap.size) (hP : PosIn N w b b0 b1 p) :
    Calls Tryz.prog 27 #[.agg #[g0, g1, g2, g3, g4, g5, g6, g7, g8], PosV b b0 b1 c c0 c1 p] w (Sgl (textP p) w) := by
  have hA : Below w.heap.size w ((w.alloc (.cells #[g0, g1, g2, g3, g4, g5, g6, g7, g8] 41)).alloc (.cells #[.slice b p.cells.length c, .slice b0 p.h0.length c0, .slice b1 p.h1.length c1, .int .i64 p.rights, .int .i64 p.side] 32)) := below_alloc (below_alloc (Below.refl _ _) _) _
  have hX : ((w.alloc (.cells #[g0, g1, g2, g3, g4, g5, g6, g7, g8] 41)).alloc (.cells #[.slice b p.cells.length c, .slice b0 p.h0.length c0, .slice b1 p.h1.length c1, .int .i64 p.rights, .int .i64 p.side] 32)).heap[w.heap.size + 1]? = some (.cells #[.slice b p.cells.length c, .slice b0 p.h0.length c0, .slice b1 p.h1.length c1, .int .i64 p.rights, .int .i64 p.side] 32 (0, 0)) := hp_new_at _ _ (by simp)
  unfold PosV
  go_enter Tryz.func27, Tryz.ntmps27
  go_upto_region 1 with (fail)
  generalize (w.alloc (.cells #[g0, g1, g2, g3, g4, g5, g6, g7, g8] 41)).alloc (.cells #[.slice b p.cells.length c, .slice b0 p.h0.length c0, .slice b1 p.h1.length c1, .int .i64 p.rights, .int .i64 p.side] 32) = w0 at *
  have HP0 := Lib.hid (hP.up hN hA)
  have HX := Lib.hid hX
  have HA := Lib.hid hA
  have hxl := bx_lt hX
  have hs0 := hA.size
  have hlc := hp.lc
  have hl0 := hp.l0
  have hl1 := hp.l1
  clear hP hX hA
  have HPL := Lib.hid hp
  go_wp2_with fail
  go_loopw [5, 6] (fun v i wr => ∃ k : Nat, k ≤ p.cells.length ∧ v = .string ⟨(signsS contS (p.cells.take k)).toArray⟩ ∧ i = .int .i64 k ∧ Hid (Below w0.heap.size w0 wr)) (fun _ i _ => p.cells.length - (intOf i).toNat)
  case atStart => exact ⟨0, Nat.zero_le _, rfl, rfl, Lib.hid (Below.refl _ _)⟩
  case round =>
    obtain ⟨k, hk, rfl, rfl, hb⟩ := hrel
    generalize wr = w5 at *
    have hX5 := (hb.out.block _ hxl).trans HX.out
    have p0 := bx_cell hX5 0 rfl
    have hlS := signsS_len contS (p.cells.take k)
    rw [List.length_take] at hlS
    by_cases hlt : k < p.cells.length
    · skip
      have t1 : decide (k < p.cells.length) = true := by simpa using hlt
      have t1' : decide ((k : Int) < (p.cells.length : Int)) = true := by simpa using hlt
      have t3 : (0 : Int) ≤ (k : Int) := by omega
      have t4 : (k : Int) < (p.cells.length : Int) := by omega
      obtain ⟨bb, off, hbe, _, hc⟩ := ((HP0.out.up (Nat.le_trans hN hs0) hb.out).cells).at_ hlt
      subst hbe
      have hx := HPL.out.cells k
      have HSS := Lib.hid (signsS_succ contS p.cells k hlt)
      generalize p.cells[k]?.getD 0 = xv at *
      have hl1s := signS_len contS xv
      have HSG := Lib.hid (rsign_any xv hx w5)
      generalize signsS contS (p.cells.take k) = LL at *
      generalize signS contS xv = SX at *
      have HAD := Lib.hid (str_add LL SX)
      clear hX5 hx
      go_wp2_with fail
      refine HSG.out.mono ?_
      rintro e w6 ⟨rfl, hb6⟩
      have HBN := Lib.hid (below_step hb.out hb6)
      clear hb hb6 hc p0
      have hz1 : (⟨LL.toArray⟩ : ByteArray).size = LL.length := by simp [ByteArray.size]
      have hz2 : (⟨SX.toArray⟩ : ByteArray).size = SX.length := by simp [ByteArray.size]
      go_wp2_with fail
      go_roundw
      case rel => exact ⟨k + 1, by omega, by rw [HAD.out, HSS.out], by go_num, HBN⟩
      case measure => simp [intOf]; omega
    · obtain rfl : k = p.cells.length := by omega
      have t1 : decide (p.cells.length < p.cells.length) = false := by simp
      have t1' : decide ((p.cells.length : Int) < (p.cells.length : Int)) = false := by simp
      have HT0 := Lib.hid (show signsS contS (p.cells.take p.cells.length) = pt p 0 by rw [List.take_of_length_le (Nat.le_refl _)]; rfl)
      rw [HT0.out]
      clear hlS hX5
      go_wp2_with fail
      clear p0 t1 t1' HT0
      go_loopw [5, 7] (fun v i wr => ∃ s : Nat, s ≤ 2 ∧ v = .string ⟨(pt p s).toArray⟩ ∧ i = .int .i64 s ∧ Hid (Below w0.heap.size w0 wr)) (fun _ i _ => 2 - (intOf i).toNat)
      case atStart => exact ⟨0, Nat.zero_le _, rfl, rfl, hb⟩
      case round =>
        clear hb
        obtain ⟨s, hs, rfl, rfl, hb⟩ := hrel
        generalize wr = w5 at *
        have hpl := pt_len hlc hl0 hl1 s hs
        by_cases hlt2 : s < 2
        · have t1 : decide ((s : Int) < 2) = true := by simp; omega
          have HA1 := Lib.hid (str_add (pt p s) [47])
          have hz1 : (⟨(pt p s).toArray⟩ : ByteArray).size = (pt p s).length := by simp [ByteArray.size]
          rcases (show s = 0 ∨ s = 1 by omega) with rfl | rfl
          · skip
            have HNX := Lib.hid (show pt p (0 + 1) = (pt p 0 ++ [47]) ++ signsS digS p.h0 from rfl)
            have hX5 := (hb.out.block _ hxl).trans HX.out
            have p1 : w5.cell? ⟨w.heap.size + 1, 1, none⟩ = some (.slice b0 p.h0.length c0) := bx_cell hX5 1 rfl
            generalize pt p 0 = PT at *
            go_wp2_with fail
            rw [HA1.out]
            clear p1 hX5 hz1 t1
            rw [show ((0 : Nat) : Int) = (0 : Int) from rfl]
            have HE := Lib.hid (show PT ++ [47] = (PT ++ [47]) ++ signsS digS (p.h0.take 0) by simp [signsS])
            go_loopw [5, 8] (fun v i wr => ∃ k : Nat, k ≤ p.h0.length ∧ v = .string ⟨((PT ++ [47]) ++ signsS digS (p.h0.take k)).toArray⟩ ∧ i = .int .i64 k ∧ Hid (Below w0.heap.size w0 wr)) (fun _ i _ => p.h0.length - (intOf i).toNat)
            case atStart => exact ⟨0, Nat.zero_le _, by rw [← HE.out], rfl, hb⟩
            case round =>
              clear hb
              obtain ⟨k, hk, rfl, rfl, hb⟩ := hrel
              generalize wr = w6 at *
              have hX5 := (hb.out.block _ hxl).trans HX.out
              have p1 : w6.cell? ⟨w.heap.size + 1, 1, none⟩ = some (.slice b0 p.h0.length c0) := bx_cell hX5 1 rfl
              by_cases hlt : k < p.h0.length
              · have t1 : decide (k < p.h0.length) = true := by simpa using hlt
                have t1' : decide ((k : Int) < (p.h0.length : Int)) = true := by simpa using hlt
                have t3 : (0 : Int) ≤ (k : Int) := by omega
                have t4 : (k : Int) < (p.h0.length : Int) := by omega
                obtain ⟨bb, off, hbe, _, hc⟩ := ((HP0.out.up (Nat.le_trans hN hs0) hb.out).h0).at_ hlt
                subst hbe
                have hx := HPL.out.h0 k
                have H0 := Lib.hid (signsS_succ digS p.h0 k hlt)
                have hlS := signsS_len digS (p.h0.take k)
                rw [List.length_take] at hlS
                have hlS2 : ((PT ++ [47]) ++ signsS digS (p.h0.take k)).length ≤ 30 := by simp only [List.length_append, List.length_cons, List.length_nil]; omega
                generalize p.h0[k]?.getD 0 = xv at *
                have hl1s := signS_len digS xv
                have HSG := Lib.hid (rdec_any xv hx w6)
                obtain ⟨LL, hLL⟩ : ∃ LL, (PT ++ [47]) ++ signsS digS (p.h0.take k) = LL := ⟨_, rfl⟩
                have HLL := Lib.hid hLL
                rw [hLL] at hlS2 ⊢
                clear hLL
                generalize signS digS xv = SX at *
                have HAD := Lib.hid (str_add LL SX)
                clear hX5 hx hlS
                go_wp2_with fail
                refine HSG.out.mono ?_
                rintro e w7 ⟨rfl, hb6⟩
                have HBN := Lib.hid (below_step hb.out hb6)
                clear hb hb6 hc p1
                have hz1 : (⟨LL.toArray⟩ : ByteArray).size = LL.length := by simp [ByteArray.size]
                have hz2 : (⟨SX.toArray⟩ : ByteArray).size = SX.length := by simp [ByteArray.size]
                go_wp2_with fail
                go_roundw
                case rel => exact ⟨k + 1, by omega, by rw [HAD.out, H0.out, ← HLL.out, List.append_assoc (PT ++ [47])], by go_num, HBN⟩
                case measure => simp [intOf]; omega
              · obtain rfl : k = p.h0.length := by omega
                have t1 : decide (p.h0.length < p.h0.length) = false := by simp
                have t1' : decide ((p.h0.length : Int) < (p.h0.length : Int)) = false := by simp
                have HTK := Lib.hid (show (PT ++ [47]) ++ signsS digS (p.h0.take p.h0.length) = pt p (0 + 1) by rw [List.take_of_length_le (Nat.le_refl _), HNX.out])
                rw [HTK.out]
                clear hX5
                go_wp2_with fail
                clear p1
                go_roundw
                case rel => exact ⟨0 + 1, by omega, rfl, by go_num, hb⟩
                case measure => simp [intOf]
          · skip
            have HNX := Lib.hid (show pt p (1 + 1) = (pt p 1 ++ [47]) ++ signsS digS p.h1 from rfl)
            have hX5 := (hb.out.block _ hxl).trans HX.out
            have p1 : w5.cell? ⟨w.heap.size + 1, 2, none⟩ = some (.slice b1 p.h1.length c1) := bx_cell hX5 2 rfl
            generalize pt p 1 = PT at *
            go_wp2_with fail
            rw [HA1.out]
            clear p1 hX5 hz1 t1
            rw [show ((1 : Nat) : Int) = (1 : Int) from rfl]
            have HE := Lib.hid (show PT ++ [47] = (PT ++ [47]) ++ signsS digS (p.h1.take 0) by simp [signsS])
            go_loopw [5, 8] (fun v i wr => ∃ k : Nat, k ≤ p.h1.length ∧ v = .string ⟨((PT ++ [47]) ++ signsS digS (p.h1.take k)).toArray⟩ ∧ i = .int .i64 k ∧ Hid (Below w0.heap.size w0 wr)) (fun _ i _ => p.h1.length - (intOf i).toNat)
            case atStart => exact ⟨0, Nat.zero_le _, by rw [← HE.out], rfl, hb⟩
            case round =>
              clear hb
              obtain ⟨k, hk, rfl, rfl, hb⟩ := hrel
              generalize wr = w6 at *
              have hX5 := (hb.out.block _ hxl).trans HX.out
              have p1 : w6.cell? ⟨w.heap.size + 1, 2, none⟩ = some (.slice b1 p.h1.length c1) := bx_cell hX5 2 rfl
              by_cases hlt : k < p.h1.length
              · have t1 : decide (k < p.h1.length) = true := by simpa using hlt
                have t1' : decide ((k : Int) < (p.h1.length : Int)) = true := by simpa using hlt
                have t3 : (0 : Int) ≤ (k : Int) := by omega
                have t4 : (k : Int) < (p.h1.length : Int) := by omega
                obtain ⟨bb, off, hbe, _, hc⟩ := ((HP0.out.up (Nat.le_trans hN hs0) hb.out).h1).at_ hlt
                subst hbe
                have hx := HPL.out.h1 k
                have H1 := Lib.hid (signsS_succ digS p.h1 k hlt)
                have hlS := signsS_len digS (p.h1.take k)
                rw [List.length_take] at hlS
                have hlS2 : ((PT ++ [47]) ++ signsS digS (p.h1.take k)).length ≤ 30 := by simp only [List.length_append, List.length_cons, List.length_nil]; omega
                generalize p.h1[k]?.getD 0 = xv at *
                have hl1s := signS_len digS xv
                have HSG := Lib.hid (rdec_any xv hx w6)
                obtain ⟨LL, hLL⟩ : ∃ LL, (PT ++ [47]) ++ signsS digS (p.h1.take k) = LL := ⟨_, rfl⟩
                have HLL := Lib.hid hLL
                rw [hLL] at hlS2 ⊢
                clear hLL
                generalize signS digS xv = SX at *
                have HAD := Lib.hid (str_add LL SX)
                clear hX5 hx hlS
                go_wp2_with fail
                refine HSG.out.mono ?_
                rintro e w7 ⟨rfl, hb6⟩
                have HBN := Lib.hid (below_step hb.out hb6)
                clear hb hb6 hc p1
                have hz1 : (⟨LL.toArray⟩ : ByteArray).size = LL.length := by simp [ByteArray.size]
                have hz2 : (⟨SX.toArray⟩ : ByteArray).size = SX.length := by simp [ByteArray.size]
                go_wp2_with fail
                go_roundw
                case rel => exact ⟨k + 1, by omega, by rw [HAD.out, H1.out, ← HLL.out, List.append_assoc (PT ++ [47])], by go_num, HBN⟩
                case measure => simp [intOf]; omega
              · obtain rfl : k = p.h1.length := by omega
                have t1 : decide (p.h1.length < p.h1.length) = false := by simp
                have t1' : decide ((p.h1.length : Int) < (p.h1.length : Int)) = false := by simp
                have HTK := Lib.hid (show (PT ++ [47]) ++ signsS digS (p.h1.take p.h1.length) = pt p (1 + 1) by rw [List.take_of_length_le (Nat.le_refl _), HNX.out])
                rw [HTK.out]
                clear hX5
                go_wp2_with fail
                clear p1
                go_roundw
                case rel => exact ⟨1 + 1, by omega, rfl, by go_num, hb⟩
                case measure => simp [intOf]
        · obtain rfl : s = 2 := by omega
          have t1 : decide ((2 : Int) < 2) = false := by simp
          have hX5 := (hb.out.block _ hxl).trans HX.out
          have hC : RPc w5 (w.heap.size + 1) p.rights p.side w5 := ⟨Below.refl _ _, bx_cell hX5 3 rfl, bx_cell hX5 4 rfl⟩
          have HR := Lib.hid (fun W => rdec_any p.rights ⟨HPL.out.rights.1, by have := HPL.out.rights.2; omega⟩ W)
          have HS := Lib.hid (fun W => rdec_any p.side ⟨HPL.out.side.1, by have := HPL.out.side.2; omega⟩ W)
          have HTX := Lib.hid (show ((((pt p 2 ++ [47]) ++ signS digS p.rights) ++ [47]) ++ signS digS p.side) = textP p from text_pt HPL.out)
          have hr1 := signS_len digS p.rights
          have hr2 := signS_len digS p.side
          generalize signS digS p.rights = SR at *
          generalize signS digS p.side = SD at *
          generalize pt p 2 = PT at *
          have HA1 := Lib.hid (str_add PT [47])
          have HA2 := Lib.hid (str_add (PT ++ [47]) SR)
          have HA3 := Lib.hid (str_add ((PT ++ [47]) ++ SR) [47])
          have HA4 := Lib.hid (str_add (((PT ++ [47]) ++ SR) ++ [47]) SD)
          have hz1 : (⟨PT.toArray⟩ : ByteArray).size = PT.length := by simp [ByteArray.size]
          have hz2 : (⟨SR.toArray⟩ : ByteArray).size = SR.length := by simp [ByteArray.size]
          have hz3 : (⟨SD.toArray⟩ : ByteArray).size = SD.length := by simp [ByteArray.size]
          have k1 : ¬ 9223372036854775807 < PT.length + 1 := by omega
          have k2 : ¬ 9223372036854775807 < PT.length + 1 + SR.length := by omega
          have k3 : ¬ 9223372036854775807 < PT.length + 1 + SR.length + 1 := by omega
          have k4 : ¬ 9223372036854775807 < PT.length + 1 + SR.length + 1 + SD.length := by omega
          clear hX5
          go_upto_region 14 with (fail)
          refine wp_region_quiet (C := RPc w5 (w.heap.size + 1) p.rights p.side) (by kernel_rfl) (by kernel_rfl) (hC.up (Below.refl _ _).drew) ?_
          dsimp only
          iterate 4
            refine wpQuiet_val (v := ?_) (by rfl) ?_ ?_
            rotate_left
            · ((intro W hW; (try cases hW); go_simp); try with_reducible rfl)
            (try simp only [Act.put, List.setIfInBounds_toArray, List.set_cons_zero, List.set_cons_succ])
          refine wpQuiet_val (v := .string ⟨SR.toArray⟩) (by rfl) (fun W hW => ?_) ?_
          · go_simp
            exact (HR.out W).mono fun e w' ⟨he, hb⟩ => ⟨he, hW.up hb⟩
          (try simp only [Act.put, List.setIfInBounds_toArray, List.set_cons_zero, List.set_cons_succ])
          iterate 4
            refine wpQuiet_val (v := ?_) (by rfl) ?_ ?_
            rotate_left
            · ((intro W hW; (try cases hW); go_simp); try with_reducible rfl)
            (try simp only [Act.put, List.setIfInBounds_toArray, List.set_cons_zero, List.set_cons_succ])
          refine wpQuiet_val (v := .string ⟨SD.toArray⟩) (by rfl) (fun W hW => ?_) ?_
          · go_simp
            exact (HS.out W).mono fun e w' ⟨he, hb⟩ => ⟨he, hW.up hb⟩
          (try simp only [Act.put, List.setIfInBounds_toArray, List.set_cons_zero, List.set_cons_succ])
          iterate 2
            refine wpQuiet_val (v := ?_) (by rfl) ?_ ?_
            rotate_left
            · ((intro W hW; (try cases hW); go_simp); try with_reducible rfl)
            (try simp only [Act.put, List.setIfInBounds_toArray, List.set_cons_zero, List.set_cons_succ])
          refine wpQuiet_nil (fun W hW => ?_)
          have HBE := Lib.hid (HA.out.trans ((below_step hb.out hW.b).mono hs0))
          clear hW hb k1 k2 k3 k4
          go_wp2
          go_ret
          exact ⟨by rw [HA1.out, HA2.out, HA3.out, HA4.out, HTX.out]; rfl, HBE.out⟩
end Go.Proofs.YtphhkfelpckilaaGreatDoor
