/-
  Of the reference: sign, decimal, Print, for numbers that made positions have.
  Numbers and Key of the reference.
  Of the reference: Find.
  Of the reference: Count.
-/
import Derived.Test.YtphhkfelpckilaaGreatDoorGPos
import Derived.Laws.BytesArg
import Derived.Test.YtphhkfelpckilaaGreatDoorDKeyT
import Derived.Deep.Upon
import Derived.Test.YtphhkfelpckilaaGreatDoorPRSort
namespace Go.Proofs.YtphhkfelpckilaaGreatDoor
open Go Go.RowKit

theorem conv1 (x : Int) (w : World) : (convert 22 9 (.slice (some ⟨w.heap.size, 0, none⟩) 1 1)).run Tryz.prog (w.alloc (.cells #[.int .u8 x] 5)) = .ok (.string (strOfNums [x])) (w.alloc (.cells #[.int .u8 x] 5)) :=
  run_convert_bytes_arg (P := Tryz.prog) _ 22 5 Tryz.underlying22 Tryz.underlying5 w.heap.size 0 1 1 [x] rfl (fun i hi => by
    obtain rfl : i = 0 := by omega
    exact cell_new_at _ _ _ _ _ _ rfl rfl) 9 Tryz.underlying9
def Sgl (s : List UInt8) (w : World) (e : Ending) (w' : World) : Prop := e = .returned (.string ⟨s.toArray⟩) ∧ Below w.heap.size w w'
set_option maxRecDepth 100000 in
set_option maxHeartbeats 800000 in
theorem rsign_any (n : Int) (h : 0 ≤ n ∧ n ≤ 4) (w : World) : Calls Tryz.prog 59 #[.int .i64 n] w (Sgl (signS contS n) w) := by
  rcases (show n = 0 ∨ n = 1 ∨ n = 2 ∨ n = 3 ∨ n = 4 by omega) with rfl | rfl | rfl | rfl | rfl
  · go_enter Tryz.func59, Tryz.ntmps59
    go_wp2
    go_ret
    exact ⟨rfl, Below.refl _ _⟩
  · have hc := conv1 65 w
    rw [show strOfNums [65] = ⟨#[65]⟩ from rfl] at hc
    go_enter Tryz.func59, Tryz.ntmps59
    go_wp2
    go_ret
    exact ⟨rfl, below_alloc (Below.refl _ _) _⟩
  · have hc := conv1 97 w
    rw [show strOfNums [97] = ⟨#[97]⟩ from rfl] at hc
    go_enter Tryz.func59, Tryz.ntmps59
    go_wp2
    go_ret
    exact ⟨rfl, below_alloc (Below.refl _ _) _⟩
  · have hc := conv1 66 w
    rw [show strOfNums [66] = ⟨#[66]⟩ from rfl] at hc
    go_enter Tryz.func59, Tryz.ntmps59
    go_wp2
    go_ret
    exact ⟨rfl, below_alloc (Below.refl _ _) _⟩
  · have hc := conv1 98 w
    rw [show strOfNums [98] = ⟨#[98]⟩ from rfl] at hc
    go_enter Tryz.func59, Tryz.ntmps59
    go_wp2
    go_ret
    exact ⟨rfl, below_alloc (Below.refl _ _) _⟩
set_option maxRecDepth 100000 in
set_option maxHeartbeats 800000 in
theorem rdec_any (n : Int) (h : 0 ≤ n ∧ n ≤ 8) (w : World) : Calls Tryz.prog 60 #[.int .i64 n] w (Sgl (signS digS n) w) := by
  rcases (show n = 0 ∨ n = 1 ∨ n = 2 ∨ n = 3 ∨ n = 4 ∨ n = 5 ∨ n = 6 ∨ n = 7 ∨ n = 8 by omega) with rfl | rfl | rfl | rfl | rfl | rfl | rfl | rfl | rfl
  · have hc := conv1 48 w
    rw [show strOfNums [48] = ⟨#[48]⟩ from rfl] at hc
    go_enter Tryz.func60, Tryz.ntmps60
    go_wp2
    go_ret
    exact ⟨rfl, below_alloc (Below.refl _ _) _⟩
  · have hc := conv1 49 w
    rw [show strOfNums [49] = ⟨#[49]⟩ from rfl] at hc
    go_enter Tryz.func60, Tryz.ntmps60
    go_wp2
    go_ret
    exact ⟨rfl, below_alloc (Below.refl _ _) _⟩
  · have hc := conv1 50 w
    rw [show strOfNums [50] = ⟨#[50]⟩ from rfl] at hc
    go_enter Tryz.func60, Tryz.ntmps60
    go_wp2
    go_ret
    exact ⟨rfl, below_alloc (Below.refl _ _) _⟩
  · have hc := conv1 51 w
    rw [show strOfNums [51] = ⟨#[51]⟩ from rfl] at hc
    go_enter Tryz.func60, Tryz.ntmps60
    go_wp2
    go_ret
    exact ⟨rfl, below_alloc (Below.refl _ _) _⟩
  · have hc := conv1 52 w
    rw [show strOfNums [52] = ⟨#[52]⟩ from rfl] at hc
    go_enter Tryz.func60, Tryz.ntmps60
    go_wp2
    go_ret
    exact ⟨rfl, below_alloc (Below.refl _ _) _⟩
  · have hc := conv1 53 w
    rw [show strOfNums [53] = ⟨#[53]⟩ from rfl] at hc
    go_enter Tryz.func60, Tryz.ntmps60
    go_wp2
    go_ret
    exact ⟨rfl, below_alloc (Below.refl _ _) _⟩
  · have hc := conv1 54 w
    rw [show strOfNums [54] = ⟨#[54]⟩ from rfl] at hc
    go_enter Tryz.func60, Tryz.ntmps60
    go_wp2
    go_ret
    exact ⟨rfl, below_alloc (Below.refl _ _) _⟩
  · have hc := conv1 55 w
    rw [show strOfNums [55] = ⟨#[55]⟩ from rfl] at hc
    go_enter Tryz.func60, Tryz.ntmps60
    go_wp2
    go_ret
    exact ⟨rfl, below_alloc (Below.refl _ _) _⟩
  · have hc := conv1 56 w
    rw [show strOfNums [56] = ⟨#[56]⟩ from rfl] at hc
    go_enter Tryz.func60, Tryz.ntmps60
    go_wp2
    go_ret
    exact ⟨rfl, below_alloc (Below.refl _ _) _⟩
theorem dec_itoa (n : Int) (h : 0 ≤ n ∧ n ≤ 8) : Lib.itoa n = signS digS n := by
  rcases (show n = 0 ∨ n = 1 ∨ n = 2 ∨ n = 3 ∨ n = 4 ∨ n = 5 ∨ n = 6 ∨ n = 7 ∨ n = 8 by omega) with rfl | rfl | rfl | rfl | rfl | rfl | rfl | rfl | rfl <;> decide +kernel
theorem str_add (a b : List UInt8) : (⟨a.toArray⟩ : ByteArray) ++ ⟨b.toArray⟩ = ⟨(a ++ b).toArray⟩ := by
  apply ByteArray.ext
  simp [ByteArray.data_append]
/-- Numbers that a made position has. -/
structure PosLow (p : PosS) : Prop where
  cells : ∀ i : Nat, 0 ≤ p.cells[i]?.getD 0 ∧ p.cells[i]?.getD 0 ≤ 4
  h0 : ∀ i : Nat, 0 ≤ p.h0[i]?.getD 0 ∧ p.h0[i]?.getD 0 ≤ 8
  h1 : ∀ i : Nat, 0 ≤ p.h1[i]?.getD 0 ∧ p.h1[i]?.getD 0 ≤ 8
  rights : 0 ≤ p.rights ∧ p.rights ≤ 3
  side : 0 ≤ p.side ∧ p.side ≤ 1
  lc : p.cells.length ≤ 9
  l0 : p.h0.length ≤ 2
  l1 : p.h1.length ≤ 2
def pt (p : PosS) : Nat → List UInt8
  | 0 => signsS contS p.cells
  | 1 => (signsS contS p.cells ++ [47]) ++ signsS digS p.h0
  | _ => (((signsS contS p.cells ++ [47]) ++ signsS digS p.h0) ++ [47]) ++ signsS digS p.h1
theorem pt_len {p : PosS} (hc : p.cells.length ≤ 9) (h0 : p.h0.length ≤ 2) (h1 : p.h1.length ≤ 2) (s : Nat) (hs : s ≤ 2) : (pt p s).length ≤ 20 := by
  have a0 := signsS_len contS p.cells
  have a1 := signsS_len digS p.h0
  have a2 := signsS_len digS p.h1
  rcases (show s = 0 ∨ s = 1 ∨ s = 2 by omega) with rfl | rfl | rfl <;> simp only [pt, List.length_append, List.length_cons, List.length_nil] <;> omega
theorem text_pt {p : PosS} (hp : PosLow p) : ((((pt p 2 ++ [47]) ++ signS digS p.rights) ++ [47]) ++ signS digS p.side) = textP p := by
  unfold textP
  rw [dec_itoa p.rights ⟨hp.rights.1, by have := hp.rights.2; omega⟩, dec_itoa p.side ⟨hp.side.1, by have := hp.side.2; omega⟩]
  simp [pt, Lib.join]
/-- The box of a position, its last two numbers. -/
structure RPc (w : World) (q : Nat) (r d : Int) (W : World) : Prop where
  b : Below w.heap.size w W
  c3 : W.cell? ⟨q, 3, none⟩ = some (.int .i64 r)
  c4 : W.cell? ⟨q, 4, none⟩ = some (.int .i64 d)
theorem RPc.up {w W W' : World} {q : Nat} {r d : Int} (h : RPc w q r d W) (hb : Below W.heap.size W W') : RPc w q r d W' := ⟨below_step h.b hb, cell_keep hb h.c3, cell_keep hb h.c4⟩
set_option maxRecDepth 100000 in
set_option maxHeartbeats 1500000 in
theorem rprint_any (g0 g1 g2 g3 g4 g5 g6 g7 g8 : Value) (p : PosS) (b b0 b1 : Option Addr) (c c0 c1 N : Nat) (w : World) (hp : PosLow p) (hN : N ≤ w.heap.size) (hP : PosIn N w b b0 b1 p) :
    Calls Tryz.prog 27 #[.agg #[g0, g1, g2, g3, g4, g5, g6, g7, g8], PosV b b0 b1 c c0 c1 p] w (Sgl (textP p) w) := by
  have hA : Below w.heap.size w ((w.alloc (.cells #[g0, g1, g2, g3, g4, g5, g6, g7, g8] 41)).alloc (.cells #[.slice b p.cells.length c, .slice b0 p.h0.length c0, .slice b1 p.h1.length c1, .int .i64 p.rights, .int .i64 p.side] 32)) := below_alloc (below_alloc (Below.refl _ _) _) _
  have hX : ((w.alloc (.cells #[g0, g1, g2, g3, g4, g5, g6, g7, g8] 41)).alloc (.cells #[.slice b p.cells.length c, .slice b0 p.h0.length c0, .slice b1 p.h1.length c1, .int .i64 p.rights, .int .i64 p.side] 32)).heap[w.heap.size + 1]? = some (.cells #[.slice b p.cells.length c, .slice b0 p.h0.length c0, .slice b1 p.h1.length c1, .int .i64 p.rights, .int .i64 p.side] 32 (0, 0)) := hp_new_at _ _ (by simp)
  unfold PosV
  go_enter Tryz.func27, Tryz.ntmps27
  go_upto_region 1 with (fail)
  generalize (w.alloc (.cells #[g0, g1, g2, g3, g4, g5, g6, g7, g8] 41)).alloc (.cells #[.slice b p.cells.length c, .slice b0 p.h0.length c0, .slice b1 p.h1.length c1, .int .i64 p.rights, .int .i64 p.side] 32) = w0 at *
  have HP0 := Lib.hid (hP.up hN hA)
  have HX := Lib.hid hX
  have HA := Lib.hid hA
  have hxl := bx_lt hX
  have hs0 := hA.size
  have hlc := hp.lc
  have hl0 := hp.l0
  have hl1 := hp.l1
  clear hP hX hA
  have HPL := Lib.hid hp
  go_wp2_with fail
  go_loopw [5, 6] (fun v i wr => ∃ k : Nat, k ≤ p.cells.length ∧ v = .string ⟨(signsS contS (p.cells.take k)).toArray⟩ ∧ i = .int .i64 k ∧ Hid (Below w0.heap.size w0 wr)) (fun _ i _ => p.cells.length - (intOf i).toNat)
  case atStart => exact ⟨0, Nat.zero_le _, rfl, rfl, Lib.hid (Below.refl _ _)⟩
  case round =>
    obtain ⟨k, hk, rfl, rfl, hb⟩ := hrel
    generalize wr = w5 at *
    have hX5 := (hb.out.block _ hxl).trans HX.out
    have p0 := bx_cell hX5 0 rfl
    have hlS := signsS_len contS (p.cells.take k)
    rw [List.length_take] at hlS
    by_cases hlt : k < p.cells.length
    · skip
      have t1 : decide (k < p.cells.length) = true := by simpa using hlt
      have t1' : decide ((k : Int) < (p.cells.length : Int)) = true := by simpa using hlt
      have t3 : (0 : Int) ≤ (k : Int) := by omega
      have t4 : (k : Int) < (p.cells.length : Int) := by omega
      obtain ⟨bb, off, hbe, _, hc⟩ := ((HP0.out.up (Nat.le_trans hN hs0) hb.out).cells).at_ hlt
      subst hbe
      have hx := HPL.out.cells k
      have HSS := Lib.hid (signsS_succ contS p.cells k hlt)
      generalize p.cells[k]?.getD 0 = xv at *
      have hl1s := signS_len contS xv
      have HSG := Lib.hid (rsign_any xv hx w5)
      generalize signsS contS (p.cells.take k) = LL at *
      generalize signS contS xv = SX at *
      have HAD := Lib.hid (str_add LL SX)
      clear hX5 hx
      go_wp2_with fail
      refine HSG.out.mono ?_
      rintro e w6 ⟨rfl, hb6⟩
      have HBN := Lib.hid (below_step hb.out hb6)
      clear hb hb6 hc p0
      have hz1 : (⟨LL.toArray⟩ : ByteArray).size = LL.length := by simp [ByteArray.size]
      have hz2 : (⟨SX.toArray⟩ : ByteArray).size = SX.length := by simp [ByteArray.size]
      go_wp2_with fail
      go_roundw
      case rel => exact ⟨k + 1, by omega, by rw [HAD.out, HSS.out], by go_num, HBN⟩
      case measure => simp [intOf]; omega
    · obtain rfl : k = p.cells.length := by omega
      have t1 : decide (p.cells.length < p.cells.length) = false := by simp
      have t1' : decide ((p.cells.length : Int) < (p.cells.length : Int)) = false := by simp
      have HT0 := Lib.hid (show signsS contS (p.cells.take p.cells.length) = pt p 0 by rw [List.take_of_length_le (Nat.le_refl _)]; rfl)
      rw [HT0.out]
      clear hlS hX5
      go_wp2_with fail
      clear p0 t1 t1' HT0
      go_loopw [5, 7] (fun v i wr => ∃ s : Nat, s ≤ 2 ∧ v = .string ⟨(pt p s).toArray⟩ ∧ i = .int .i64 s ∧ Hid (Below w0.heap.size w0 wr)) (fun _ i _ => 2 - (intOf i).toNat)
      case atStart => exact ⟨0, Nat.zero_le _, rfl, rfl, hb⟩
      case round =>
        clear hb
        obtain ⟨s, hs, rfl, rfl, hb⟩ := hrel
        generalize wr = w5 at *
        have hpl := pt_len hlc hl0 hl1 s hs
        by_cases hlt2 : s < 2
        · have t1 : decide ((s : Int) < 2) = true := by simp; omega
          have HA1 := Lib.hid (str_add (pt p s) [47])
          have hz1 : (⟨(pt p s).toArray⟩ : ByteArray).size = (pt p s).length := by simp [ByteArray.size]
          rcases (show s = 0 ∨ s = 1 by omega) with rfl | rfl
          · skip
            have HNX := Lib.hid (show pt p (0 + 1) = (pt p 0 ++ [47]) ++ signsS digS p.h0 from rfl)
            have hX5 := (hb.out.block _ hxl).trans HX.out
            have p1 : w5.cell? ⟨w.heap.size + 1, 1, none⟩ = some (.slice b0 p.h0.length c0) := bx_cell hX5 1 rfl
            generalize pt p 0 = PT at *
            go_wp2_with fail
            rw [HA1.out]
            clear p1 hX5 hz1 t1
            rw [show ((0 : Nat) : Int) = (0 : Int) from rfl]
            have HE := Lib.hid (show PT ++ [47] = (PT ++ [47]) ++ signsS digS (p.h0.take 0) by simp [signsS])
            go_loopw [5, 8] (fun v i wr => ∃ k : Nat, k ≤ p.h0.length ∧ v = .string ⟨((PT ++ [47]) ++ signsS digS (p.h0.take k)).toArray⟩ ∧ i = .int .i64 k ∧ Hid (Below w0.heap.size w0 wr)) (fun _ i _ => p.h0.length - (intOf i).toNat)
            case atStart => exact ⟨0, Nat.zero_le _, by rw [← HE.out], rfl, hb⟩
            case round =>
              clear hb
              obtain ⟨k, hk, rfl, rfl, hb⟩ := hrel
              generalize wr = w6 at *
              have hX5 := (hb.out.block _ hxl).trans HX.out
              have p1 : w6.cell? ⟨w.heap.size + 1, 1, none⟩ = some (.slice b0 p.h0.length c0) := bx_cell hX5 1 rfl
              by_cases hlt : k < p.h0.length
              · have t1 : decide (k < p.h0.length) = true := by simpa using hlt
                have t1' : decide ((k : Int) < (p.h0.length : Int)) = true := by simpa using hlt
                have t3 : (0 : Int) ≤ (k : Int) := by omega
                have t4 : (k : Int) < (p.h0.length : Int) := by omega
                obtain ⟨bb, off, hbe, _, hc⟩ := ((HP0.out.up (Nat.le_trans hN hs0) hb.out).h0).at_ hlt
                subst hbe
                have hx := HPL.out.h0 k
                have H0 := Lib.hid (signsS_succ digS p.h0 k hlt)
                have hlS := signsS_len digS (p.h0.take k)
                rw [List.length_take] at hlS
                have hlS2 : ((PT ++ [47]) ++ signsS digS (p.h0.take k)).length ≤ 30 := by simp only [List.length_append, List.length_cons, List.length_nil]; omega
                generalize p.h0[k]?.getD 0 = xv at *
                have hl1s := signS_len digS xv
                have HSG := Lib.hid (rdec_any xv hx w6)
                obtain ⟨LL, hLL⟩ : ∃ LL, (PT ++ [47]) ++ signsS digS (p.h0.take k) = LL := ⟨_, rfl⟩
                have HLL := Lib.hid hLL
                rw [hLL] at hlS2 ⊢
                clear hLL
                generalize signS digS xv = SX at *
                have HAD := Lib.hid (str_add LL SX)
                clear hX5 hx hlS
                go_wp2_with fail
                refine HSG.out.mono ?_
                rintro e w7 ⟨rfl, hb6⟩
                have HBN := Lib.hid (below_step hb.out hb6)
                clear hb hb6 hc p1
                have hz1 : (⟨LL.toArray⟩ : ByteArray).size = LL.length := by simp [ByteArray.size]
                have hz2 : (⟨SX.toArray⟩ : ByteArray).size = SX.length := by simp [ByteArray.size]
                go_wp2_with fail
                go_roundw
                case rel => exact ⟨k + 1, by omega, by rw [HAD.out, H0.out, ← HLL.out, List.append_assoc (PT ++ [47])], by go_num, HBN⟩
                case measure => simp [intOf]; omega
              · obtain rfl : k = p.h0.length := by omega
                have t1 : decide (p.h0.length < p.h0.length) = false := by simp
                have t1' : decide ((p.h0.length : Int) < (p.h0.length : Int)) = false := by simp
                have HTK := Lib.hid (show (PT ++ [47]) ++ signsS digS (p.h0.take p.h0.length) = pt p (0 + 1) by rw [List.take_of_length_le (Nat.le_refl _), HNX.out])
                rw [HTK.out]
                clear hX5
                go_wp2_with fail
                clear p1
                go_roundw
                case rel => exact ⟨0 + 1, by omega, rfl, by go_num, hb⟩
                case measure => simp [intOf]
          · skip
            have HNX := Lib.hid (show pt p (1 + 1) = (pt p 1 ++ [47]) ++ signsS digS p.h1 from rfl)
            have hX5 := (hb.out.block _ hxl).trans HX.out
            have p1 : w5.cell? ⟨w.heap.size + 1, 2, none⟩ = some (.slice b1 p.h1.length c1) := bx_cell hX5 2 rfl
            generalize pt p 1 = PT at *
            go_wp2_with fail
            rw [HA1.out]
            clear p1 hX5 hz1 t1
            rw [show ((1 : Nat) : Int) = (1 : Int) from rfl]
            have HE := Lib.hid (show PT ++ [47] = (PT ++ [47]) ++ signsS digS (p.h1.take 0) by simp [signsS])
            go_loopw [5, 8] (fun v i wr => ∃ k : Nat, k ≤ p.h1.length ∧ v = .string ⟨((PT ++ [47]) ++ signsS digS (p.h1.take k)).toArray⟩ ∧ i = .int .i64 k ∧ Hid (Below w0.heap.size w0 wr)) (fun _ i _ => p.h1.length - (intOf i).toNat)
            case atStart => exact ⟨0, Nat.zero_le _, by rw [← HE.out], rfl, hb⟩
            case round =>
              clear hb
              obtain ⟨k, hk, rfl, rfl, hb⟩ := hrel
              generalize wr = w6 at *
              have hX5 := (hb.out.block _ hxl).trans HX.out
              have p1 : w6.cell? ⟨w.heap.size + 1, 2, none⟩ = some (.slice b1 p.h1.length c1) := bx_cell hX5 2 rfl
              by_cases hlt : k < p.h1.length
              · have t1 : decide (k < p.h1.length) = true := by simpa using hlt
                have t1' : decide ((k : Int) < (p.h1.length : Int)) = true := by simpa using hlt
                have t3 : (0 : Int) ≤ (k : Int) := by omega
                have t4 : (k : Int) < (p.h1.length : Int) := by omega
                obtain ⟨bb, off, hbe, _, hc⟩ := ((HP0.out.up (Nat.le_trans hN hs0) hb.out).h1).at_ hlt
                subst hbe
                have hx := HPL.out.h1 k
                have H1 := Lib.hid (signsS_succ digS p.h1 k hlt)
                have hlS := signsS_len digS (p.h1.take k)
                rw [List.length_take] at hlS
                have hlS2 : ((PT ++ [47]) ++ signsS digS (p.h1.take k)).length ≤ 30 := by simp only [List.length_append, List.length_cons, List.length_nil]; omega
                generalize p.h1[k]?.getD 0 = xv at *
                have hl1s := signS_len digS xv
                have HSG := Lib.hid (rdec_any xv hx w6)
                obtain ⟨LL, hLL⟩ : ∃ LL, (PT ++ [47]) ++ signsS digS (p.h1.take k) = LL := ⟨_, rfl⟩
                have HLL := Lib.hid hLL
                rw [hLL] at hlS2 ⊢
                clear hLL
                generalize signS digS xv = SX at *
                have HAD := Lib.hid (str_add LL SX)
                clear hX5 hx hlS
                go_wp2_with fail
                refine HSG.out.mono ?_
                rintro e w7 ⟨rfl, hb6⟩
                have HBN := Lib.hid (below_step hb.out hb6)
                clear hb hb6 hc p1
                have hz1 : (⟨LL.toArray⟩ : ByteArray).size = LL.length := by simp [ByteArray.size]
                have hz2 : (⟨SX.toArray⟩ : ByteArray).size = SX.length := by simp [ByteArray.size]
                go_wp2_with fail
                go_roundw
                case rel => exact ⟨k + 1, by omega, by rw [HAD.out, H1.out, ← HLL.out, List.append_assoc (PT ++ [47])], by go_num, HBN⟩
                case measure => simp [intOf]; omega
              · obtain rfl : k = p.h1.length := by omega
                have t1 : decide (p.h1.length < p.h1.length) = false := by simp
                have t1' : decide ((p.h1.length : Int) < (p.h1.length : Int)) = false := by simp
                have HTK := Lib.hid (show (PT ++ [47]) ++ signsS digS (p.h1.take p.h1.length) = pt p (1 + 1) by rw [List.take_of_length_le (Nat.le_refl _), HNX.out])
                rw [HTK.out]
                clear hX5
                go_wp2_with fail
                clear p1
                go_roundw
                case rel => exact ⟨1 + 1, by omega, rfl, by go_num, hb⟩
                case measure => simp [intOf]
        · obtain rfl : s = 2 := by omega
          have t1 : decide ((2 : Int) < 2) = false := by simp
          have hX5 := (hb.out.block _ hxl).trans HX.out
          have hC : RPc w5 (w.heap.size + 1) p.rights p.side w5 := ⟨Below.refl _ _, bx_cell hX5 3 rfl, bx_cell hX5 4 rfl⟩
          have HR := Lib.hid (fun W => rdec_any p.rights ⟨HPL.out.rights.1, by have := HPL.out.rights.2; omega⟩ W)
          have HS := Lib.hid (fun W => rdec_any p.side ⟨HPL.out.side.1, by have := HPL.out.side.2; omega⟩ W)
          have HTX := Lib.hid (show ((((pt p 2 ++ [47]) ++ signS digS p.rights) ++ [47]) ++ signS digS p.side) = textP p from text_pt HPL.out)
          have hr1 := signS_len digS p.rights
          have hr2 := signS_len digS p.side
          generalize signS digS p.rights = SR at *
          generalize signS digS p.side = SD at *
          generalize pt p 2 = PT at *
          have HA1 := Lib.hid (str_add PT [47])
          have HA2 := Lib.hid (str_add (PT ++ [47]) SR)
          have HA3 := Lib.hid (str_add ((PT ++ [47]) ++ SR) [47])
          have HA4 := Lib.hid (str_add (((PT ++ [47]) ++ SR) ++ [47]) SD)
          have hz1 : (⟨PT.toArray⟩ : ByteArray).size = PT.length := by simp [ByteArray.size]
          have hz2 : (⟨SR.toArray⟩ : ByteArray).size = SR.length := by simp [ByteArray.size]
          have hz3 : (⟨SD.toArray⟩ : ByteArray).size = SD.length := by simp [ByteArray.size]
          have k1 : ¬ 9223372036854775807 < PT.length + 1 := by omega
          have k2 : ¬ 9223372036854775807 < PT.length + 1 + SR.length := by omega
          have k3 : ¬ 9223372036854775807 < PT.length + 1 + SR.length + 1 := by omega
          have k4 : ¬ 9223372036854775807 < PT.length + 1 + SR.length + 1 + SD.length := by omega
          clear hX5
          go_upto_region 14 with (fail)
          refine wp_region_quiet (C := RPc w5 (w.heap.size + 1) p.rights p.side) (by kernel_rfl) (by kernel_rfl) (hC.up (Below.refl _ _).drew) ?_
          dsimp only
          iterate 4
            refine wpQuiet_val (v := ?_) (by rfl) ?_ ?_
            rotate_left
            · ((intro W hW; (try cases hW); go_simp); try with_reducible rfl)
            (try simp only [Act.put, List.setIfInBounds_toArray, List.set_cons_zero, List.set_cons_succ])
          refine wpQuiet_val (v := .string ⟨SR.toArray⟩) (by rfl) (fun W hW => ?_) ?_
          · go_simp
            exact (HR.out W).mono fun e w' ⟨he, hb⟩ => ⟨he, hW.up hb⟩
          (try simp only [Act.put, List.setIfInBounds_toArray, List.set_cons_zero, List.set_cons_succ])
          iterate 4
            refine wpQuiet_val (v := ?_) (by rfl) ?_ ?_
            rotate_left
            · ((intro W hW; (try cases hW); go_simp); try with_reducible rfl)
            (try simp only [Act.put, List.setIfInBounds_toArray, List.set_cons_zero, List.set_cons_succ])
          refine wpQuiet_val (v := .string ⟨SD.toArray⟩) (by rfl) (fun W hW => ?_) ?_
          · go_simp
            exact (HS.out W).mono fun e w' ⟨he, hb⟩ => ⟨he, hW.up hb⟩
          (try simp only [Act.put, List.setIfInBounds_toArray, List.set_cons_zero, List.set_cons_succ])
          iterate 2
            refine wpQuiet_val (v := ?_) (by rfl) ?_ ?_
            rotate_left
            · ((intro W hW; (try cases hW); go_simp); try with_reducible rfl)
            (try simp only [Act.put, List.setIfInBounds_toArray, List.set_cons_zero, List.set_cons_succ])
          refine wpQuiet_nil (fun W hW => ?_)
          have HBE := Lib.hid (HA.out.trans ((below_step hb.out hW.b).mono hs0))
          clear hW hb k1 k2 k3 k4
          go_wp2
          go_ret
          exact ⟨by rw [HA1.out, HA2.out, HA3.out, HA4.out, HTX.out]; rfl, HBE.out⟩
end Go.Proofs.YtphhkfelpckilaaGreatDoor

namespace Go.Proofs.YtphhkfelpckilaaGreatDoor
open Go Go.RowKit Go.Sort

def numI (p : PosS) : List Int := p.cells ++ p.h0 ++ p.h1 ++ [p.rights, p.side]
theorem numI_key (p : PosS) : (numI p).map byteI = keyI p := by unfold numI keyI; simp
theorem numI_len (p : PosS) : (numI p).length = p.cells.length + p.h0.length + p.h1.length + 2 := by unfold numI; simp; omega

/-- 'append(v, l...)', v the call's own, l any list, nil too. -/
theorem wpList_pushInts {w : World} {ops : Array Oper} {rest : List Oper} {o : Oper} {a : Act} {Q : Exit → Act → World → Prop} (hgd : o.guard = none) (s y : Operand)
    (ho : o.op = .call { callee := .builtin .append, args := #[s, y], argTypes := #[29, 29] }) (n N : Nat) (v : Value) (l : List Int) (hs : a.eval s = v) (h : OwnInts n w v l) (hn : n ≤ w.heap.size)
    (ao : Option Addr) (c : Nat) (l2 : List Int) (hy : a.eval y = .slice ao l2.length c) (hx : Ints N w ao l2) (hlen : l.length + l2.length ≤ 17592186044400)
    (hK : ∀ v' w', OwnInts n w' v' (l ++ l2) → w.grownBy w' v.ownBlock → wpList Tryz.prog ops Q rest (a.put o.dst v') w') :
    wpList Tryz.prog ops Q (o :: rest) a w :=
  wpList_plain hgd fun K hK' => by
    obtain ⟨i0, hi, hz0, hz1, hz2⟩ := info_parts info_int1
    rcases hx with rfl | ⟨b, off, rfl, hbN, hc⟩
    · obtain ⟨ad, cap, hv, hle⟩ : ∃ ad cap, v = .slice ad l.length cap ∧ l.length ≤ cap := by
        rcases h.2 with ⟨hv, h0⟩ | ⟨g, cap, cur, hv, _, _, hle, _⟩
        · exact ⟨none, 0, by rw [hv, h0], by omega⟩
        · exact ⟨some ⟨g, 0, none⟩, cap, hv, hle⟩
      have hsrc : Src Tryz.prog i0.size 29 (.slice ao 0 c) 0 [] w := by
        cases ao with
        | none => exact Src.ofNil w Tryz.underlying29 c
        | some b => exact Src.ofSlice w Tryz.underlying29 b 0 c [] (by simp) (fun j u h => by simp at h) (fun u h => by cases h)
      have hr := run_append_nothing (P := Tryz.prog) w 29 29 o.type 3 i0 Tryz.underlying29 hi ad l.length cap hle (.slice ao 0 c) hsrc
      have h9 := hK' _ _ (hK v w (by rw [List.append_nil]; exact h) (World.grownBy.refl _ _))
      subst hv
      unfold Oper.wp
      simp [execOp, ho, resolve, invoke, builtin, hs, hy, hr, Result.andThen]
      exact h9
    · obtain ⟨v', w', hr, h2, h3, _, _⟩ := run_append_own_at (P := Tryz.prog) w n 29 o.type 3 i0 (.int .i64 0) 1 8 Tryz.underlying29 hi hz0 hz1 hz2 rfl (by decide) v l.length (l.map (Value.int .i64)) h ⟨b, off, none⟩ l2.length c (l2.map (Value.int .i64)) (by simp)
        (by intro j u hj
            have hj' : j < l2.length := by have := (List.getElem?_eq_some_iff.1 hj).1; simpa using this
            have e : (⟨b, off, none⟩ : Addr).add j = ⟨b, off + j, none⟩ := by by_cases h : j = 0 <;> simp [Addr.add, h]
            rw [e, hc j hj', ← hj]
            simp [hj']) (by intro u hu; simp only [List.mem_map] at hu; obtain ⟨z, _, rfl⟩ := hu; rfl) (by unfold maxLen; omega) (by omega) hn
      have h9 := hK' _ _ (hK v' w' (by unfold OwnInts; rw [List.length_append, List.map_append]; exact h2) h3)
      unfold Oper.wp
      simp [execOp, ho, resolve, invoke, builtin, hs, hy, hr, Result.andThen]
      exact h9

/-- A list of the call's own that grows, beside the position's box. -/
structure NSt (w : World) (G : Nat) (cs : Array Value) (L : List Int) (v : Value) (W : World) : Prop where
  b : Below w.heap.size w W
  pb : W.heap[w.heap.size]? = some (.cells cs 32 (0, 0))
  lt : w.heap.size < G
  g : G ≤ W.heap.size
  own : OwnInts G W v L
theorem NSt.next {w W W' : World} {G : Nat} {cs : Array Value} {L L' : List Int} {v v' : Value} (h : NSt w G cs L v W) (ho : OwnInts G W' v' L') (hg : W.grownBy W' v.ownBlock) : NSt w G cs L' v' W' :=
  ⟨h.b.trans ((Alters.of_grown hg).below (Nat.le_trans (Nat.le_of_lt h.lt) h.g) (fun k hk => Nat.le_trans (Nat.le_of_lt h.lt) (World.ownsRow.lt h.own k hk.symm).1)),
   (hg.block _ (bx_lt h.pb) (fun e => by have := (World.ownsRow.lt h.own _ e.symm).1; have := h.lt; omega)).trans h.pb, h.lt, Nat.le_trans h.g hg.size, ho⟩
theorem NSt.up {w W W' : World} {G : Nat} {cs : Array Value} {L : List Int} {v : Value} (h : NSt w G cs L v W) (hb : Below W.heap.size W W') : NSt w G cs L v W' :=
  ⟨below_step h.b hb, (hb.block _ (bx_lt h.pb)).trans h.pb, h.lt, Nat.le_trans h.g hb.size, OwnInts.alters h.own (S := fun _ => False) (Alters.of_below hb) (fun _ h => h.elim)⟩

theorem own_intsR {h : Nat} {W : World} {g k c : Nat} {l : List Int} (ho : OwnInts h W (.slice (some ⟨g, 0, none⟩) k c) l) : Ints W.heap.size W (some ⟨g, 0, none⟩) l := by
  obtain ⟨a, cap, e, hI⟩ := ho.ints
  cases e
  exact hI

set_option maxRecDepth 100000 in
set_option maxHeartbeats 4000000 in
theorem rnumbers_any (p : PosS) (b b0 b1 : Option Addr) (c c0 c1 N : Nat) (w : World) (hl : p.cells.length + p.h0.length + p.h1.length ≤ 17592186044000) (hN : N ≤ w.heap.size) (hP : PosIn N w b b0 b1 p) :
    Calls Tryz.prog 51 #[PosV b b0 b1 c c0 c1 p] w fun e w' => ∃ v, e = .returned v ∧ OwnInts w.heap.size w' v (numI p) ∧ Below w.heap.size w w' := by
  unfold PosV
  go_enter Tryz.func51, Tryz.ntmps51
  go_upto_region 1 with (fail)
  have hb0 : Below w.heap.size w (w.alloc (.cells #[.slice b p.cells.length c, .slice b0 p.h0.length c0, .slice b1 p.h1.length c1, .int .i64 p.rights, .int .i64 p.side] 32)) := below_alloc (Below.refl _ _) _
  have hP0 : (w.alloc (.cells #[.slice b p.cells.length c, .slice b0 p.h0.length c0, .slice b1 p.h1.length c1, .int .i64 p.rights, .int .i64 p.side] 32)).heap[w.heap.size]? = some (.cells #[.slice b p.cells.length c, .slice b0 p.h0.length c0, .slice b1 p.h1.length c1, .int .i64 p.rights, .int .i64 p.side] 32 (0, 0)) := World.alloc_heap_new _ _
  generalize w.alloc (.cells #[.slice b p.cells.length c, .slice b0 p.h0.length c0, .slice b1 p.h1.length c1, .int .i64 p.rights, .int .i64 p.side] 32) = w4 at *
  have l0 : w.heap.size < w4.heap.size := bx_lt hP0
  have p0 := bx_cell hP0 0 rfl
  have hE := own_empty w4
  have hbE : Below w4.heap.size w4 (w4.alloc (.cells #[] 3)) := below_alloc (Below.refl _ _) _
  have hlE : w4.heap.size ≤ (w4.alloc (.cells #[] 3)).heap.size := by simp
  have hst : NSt w w4.heap.size #[.slice b p.cells.length c, .slice b0 p.h0.length c0, .slice b1 p.h1.length c1, .int .i64 p.rights, .int .i64 p.side] [] (.slice (some ⟨w4.heap.size, 0, none⟩) 0 0) (w4.alloc (.cells #[] 3)) :=
    ⟨hb0.trans (hbE.mono (Nat.le_of_lt l0)), (hbE.block _ l0).trans hP0, l0, hlE, hE⟩
  have hPE := hP.up hN hst.b
  have hlE2 := hst.g
  have HPE := Lib.hid hPE
  have HST := Lib.hid hst
  clear hE hPE hP0 hst hbE hlE hb0
  go_upto_region 2 with (at_builtin; go_loud (refine wpList_pushInts rfl (.tmp 4) (.tmp 6) rfl w4.heap.size N (.slice (some ⟨w4.heap.size, 0, none⟩) 0 0) [] rfl HST.out.own hlE2 b c p.cells rfl HPE.out.cells (by simp; omega) ?_; intro v5 w5 hO5 hG5))
  have hst := HST.out.next hO5 hG5
  rw [List.nil_append] at hst
  clear hO5 hG5 HST hlE2 p0 HPE
  generalize w4.heap.size = G at *
  have hPE := hP.up hN hst.b
  have q1 := bx_cell hst.pb 1 rfl
  have hlE2 := hst.g
  have HPE := Lib.hid hPE
  have HST := Lib.hid hst
  clear hst hPE
  go_upto_region 3 with (at_builtin; go_loud (refine wpList_pushInts rfl (.tmp 8) (.tmp 11) rfl G N v5 p.cells rfl HST.out.own hlE2 b0 c0 p.h0 rfl HPE.out.h0 (by omega) ?_; intro v6 w6 hO5 hG5))
  have hst := HST.out.next hO5 hG5
  clear hO5 hG5 HST hlE2 q1 HPE
  have hPE := hP.up hN hst.b
  have q1 := bx_cell hst.pb 2 rfl
  have hlE2 := hst.g
  have HPE := Lib.hid hPE
  have HST := Lib.hid hst
  clear hst hPE
  go_upto_region 4 with (at_builtin; go_loud (refine wpList_pushInts rfl (.tmp 13) (.tmp 16) rfl G N v6 (p.cells ++ p.h0) rfl HST.out.own hlE2 b1 c1 p.h1 rfl HPE.out.h1 (by rw [List.length_append]; omega) ?_; intro v7 w7 hO5 hG5))
  have hst := HST.out.next hO5 hG5
  clear hO5 hG5 HST hlE2 q1 HPE
  have q2 := bx_cell hst.pb 3 rfl
  have q3 := bx_cell hst.pb 4 rfl
  have hbN : Below w7.heap.size w7 (w7.alloc (.cells #[.int .i64 p.rights, .int .i64 p.side] 3)) := below_alloc (Below.refl _ _) _
  have hI : Ints (w7.alloc (.cells #[.int .i64 p.rights, .int .i64 p.side] 3)).heap.size (w7.alloc (.cells #[.int .i64 p.rights, .int .i64 p.side] 3)) (some ⟨w7.heap.size, 0, none⟩) [p.rights, p.side] := .inr ⟨w7.heap.size, 0, rfl, by simp, fun j hj => by
    have : j = 0 ∨ j = 1 := by simp at hj; omega
    rcases this with rfl | rfl <;> exact cell_new_at _ _ _ _ _ _ rfl rfl⟩
  have hst8 := hst.up hbN
  have hlE2 := hst8.g
  have HI := Lib.hid hI
  have HST := Lib.hid hst8
  clear hst hst8 hI hbN
  go_wp2_with (at_builtin; go_loud (refine wpList_pushInts rfl (.tmp 18) (.tmp 23) rfl G _ v7 (p.cells ++ p.h0 ++ p.h1) rfl HST.out.own hlE2 (some ⟨w7.heap.size, 0, none⟩) 2 [p.rights, p.side] rfl HI.out (by simp; omega) ?_; intro v8 w8 hO5 hG5))
  have hst := Lib.hid (HST.out.next hO5 hG5)
  have hlt := HST.out.lt
  clear hO5 hG5 HST hlE2 HI q2 q3
  go_ret
  exact ⟨v8, rfl, OwnInts.mono hst.out.own (Nat.le_of_lt hlt), hst.out.b⟩

set_option maxRecDepth 100000 in
set_option maxHeartbeats 4000000 in
theorem rkey_any (p : PosS) (b b0 b1 : Option Addr) (c c0 c1 N : Nat) (w : World) (hl : p.cells.length + p.h0.length + p.h1.length ≤ 17592186044000) (hN : N ≤ w.heap.size) (hP : PosIn N w b b0 b1 p) :
    Calls Tryz.prog 21 #[PosV b b0 b1 c c0 c1 p] w fun e w' => e = .returned (.string ⟨(keyS p).toArray⟩) ∧ Below w.heap.size w w' := by
  obtain ⟨i0, hi, hz0, hz1, hz2⟩ := info_parts info_u8
  obtain ⟨R, hR⟩ : ∃ R, (⟨(keyS p).toArray⟩ : ByteArray) = R := ⟨_, rfl⟩
  rw [hR]
  have HR := Lib.hid hR
  clear hR
  unfold PosV
  go_enter Tryz.func21, Tryz.ntmps21
  go_upto_region 1 with (fail)
  have hb0 : Below w.heap.size w (w.alloc (.cells #[.slice b p.cells.length c, .slice b0 p.h0.length c0, .slice b1 p.h1.length c1, .int .i64 p.rights, .int .i64 p.side] 32)) := below_alloc (Below.refl _ _) _
  have hP0 : (w.alloc (.cells #[.slice b p.cells.length c, .slice b0 p.h0.length c0, .slice b1 p.h1.length c1, .int .i64 p.rights, .int .i64 p.side] 32)).heap[w.heap.size]? = some (.cells #[.slice b p.cells.length c, .slice b0 p.h0.length c0, .slice b1 p.h1.length c1, .int .i64 p.rights, .int .i64 p.side] 32 (0, 0)) := World.alloc_heap_new _ _
  generalize w.alloc (.cells #[.slice b p.cells.length c, .slice b0 p.h0.length c0, .slice b1 p.h1.length c1, .int .i64 p.rights, .int .i64 p.side] 32) = w4 at *
  have l0 : w.heap.size < w4.heap.size := bx_lt hP0
  have p0 := bx_cell hP0 0 rfl
  have p1 := bx_cell hP0 1 rfl
  have p2 := bx_cell hP0 2 rfl
  have p3 := bx_cell hP0 3 rfl
  have p4 := bx_cell hP0 4 rfl
  have hP4 := hP.up hN hb0
  go_upto_region 2 with (fail)
  refine (rnumbers_any p b b0 b1 c c0 c1 N w4 hl (Nat.le_trans hN hb0.size) hP4).mono ?_
  rintro e w5 ⟨v, rfl, hO, hb⟩
  have hb5 := hb0.trans (hb.mono hb0.size)
  obtain ⟨g, cap, rfl⟩ : ∃ g cap, v = .slice (some ⟨g, 0, none⟩) (numI p).length cap := by
    rcases hO.2 with ⟨_, h0⟩ | ⟨g, cap, cur, hv, _⟩
    · rw [numI_len] at h0; omega
    · exact ⟨g, cap, hv⟩
  have hI := own_intsR hO
  have hLn : (numI p).length ≤ 17592186044002 := by rw [numI_len]; omega
  have hL1 : 1 ≤ (numI p).length := by rw [numI_len]; omega
  have HKI := Lib.hid (numI_key p)
  clear p0 p1 p2 p3 p4 hP0 hP4 l0 hb0 hb hO hP hl
  generalize numI p = L at *
  have HI := Lib.hid hI
  have HB5 := Lib.hid hb5
  have hs5 := hb5.size
  clear hI hb5
  go_upto_block 0 with (fail)
  have hE : OwnBy w5.heap.size (w5.alloc (.cells #[] 5)) (.slice (some ⟨w5.heap.size, 0, none⟩) 0 0) [] :=
    ⟨rfl, .inr ⟨w5.heap.size, 0, #[], rfl, Nat.le_refl _, World.alloc_heap_new _ _, Nat.le_refl _, by omega, rfl, rfl⟩⟩
  go_wp2_with fail
  go_loopw [4, 5] (fun v i wr => ∃ (q g1 cap1 : Nat), q ≤ L.length ∧ v = .slice (some ⟨g1, 0, none⟩) q cap1 ∧ i = .int .i64 q ∧ OwnBy w5.heap.size wr (.slice (some ⟨g1, 0, none⟩) q cap1) ((L.take q).map byteI) ∧ Below w5.heap.size w5 wr) (fun _ i _ => L.length - (intOf i).toNat)
  case atStart => exact ⟨0, w5.heap.size, 0, Nat.zero_le _, rfl, rfl, by simpa using hE, below_alloc (Below.refl _ _) _⟩
  case round =>
    clear hE
    obtain ⟨q, g1, cap1, hq, rfl, rfl, ho, hbr⟩ := hrel
    by_cases hlt : q < L.length
    · have hlq : ((L.take q).map byteI).length = q := by simp; omega
      obtain ⟨b9, off, hab, hbN, hc⟩ := (HI.out.up (Nat.le_refl _) hbr).at_ hlt
      cases hab
      have e : ((L.take (q + 1)).map byteI) = ((L.take q).map byteI) ++ [byteI (L[q]?.getD 0)] := by
        have e : L.take (q + 1) = L.take q ++ [L[q]?.getD 0] := by rw [List.take_add_one]; simp [hlt]
        rw [e, List.map_append]; rfl
      have t1 : decide ((q : Int) < (L.length : Int)) = true := by simpa using hlt
      have w1 := IntWalk.i64_in ((q : Int) + 1) (by omega)
      have HE := Lib.hid e
      clear e
      generalize L[q]?.getD 0 = x at *
      generalize (L.take q).map byteI = K at *
      have HO := Lib.hid ho
      have HBR := Lib.hid hbr
      have HL := Lib.hid hlq
      have hsr := hbr.size
      have hor : (wr.alloc (.cells #[.int .u8 (x % 256)] 5)).ownsRow w5.heap.size 5 1 (.slice (some ⟨g1, 0, none⟩) q cap1) q (K.map (.int .u8)) := by
        have h9 := World.ownsRow.alloc ho (.cells #[.int .u8 (x % 256)] 5)
        rw [hlq] at h9
        exact h9
      have HOR := Lib.hid hor
      rw [Nat.zero_add] at hc
      clear ho hbr hlq hor
      go_wp2_with (at_builtin; go_loud (refine wpList_append_own_at _ rfl (.tmp 15) (.tmp 21) 22 rfl w5.heap.size 5 i0 (.int .u8 0) 1 1 Tryz.underlying22 hi hz0 hz1 hz2 rfl (by decide) (.slice (some ⟨g1, 0, none⟩) q cap1) q (K.map (.int .u8)) rfl HOR.out ⟨wr.heap.size, 0, none⟩ 1 1 [.int .u8 (x % 256)] rfl rfl (cell_one_new _ _ _) (by simp [Value.oneCell']) (by unfold maxLen; omega) (by omega) (by simp; omega) ?_; intro v8 w8 own8 g8 hnil8 h58; obtain ⟨g9, cap9, rfl⟩ := ownsRow_succ own8))
      have hO9 : OwnBy w5.heap.size w8 (.slice (some ⟨g9, 0, none⟩) (q + 1) cap9) ((L.take (q + 1)).map byteI) := by
        rw [HE.out]
        unfold OwnBy
        rw [List.length_append, HL.out, List.map_append]
        exact own8
      have hB9 : Below w5.heap.size w5 w8 := (below_alloc HBR.out _).trans ((Alters.of_grown g8).below (by rw [World.size_alloc]; omega) (fun k hk => (World.ownsRow.lt HO.out k hk.symm).1))
      exact ⟨⟨q + 1, g9, cap9, by omega, rfl, by simp, hO9, hB9⟩, by simp [intOf]; omega⟩
    · obtain rfl : q = L.length := by omega
      have t1 : decide ((L.length : Int) < (L.length : Int)) = false := by simp
      rw [List.take_length] at ho
      have ho2 : wr.ownsRow w5.heap.size 5 1 (.slice (some ⟨g1, 0, none⟩) L.length cap1) L.length ((L.map byteI).map (.int .u8)) := by
        have h9 := ho
        unfold OwnBy at h9
        rw [List.length_map] at h9
        exact h9
      have hcv : (convert 22 9 (.slice (some ⟨g1, 0, none⟩) L.length cap1)).run Tryz.prog wr = .ok (.string R) wr := by
        rw [run_convert_bytes_arg (P := Tryz.prog) wr 22 5 Tryz.underlying22 Tryz.underlying5 g1 0 _ cap1 (L.map byteI) (by simp) (fun i hi => by
          rw [Nat.zero_add, World.ownsRow.cellAt ho2 i (by omega)]
          simp [List.getD, hi]) 9 Tryz.underlying9, ← HR.out, HKI.out]
        rfl
      have HB := Lib.hid (HB5.out.trans (hbr.mono hs5))
      clear ho ho2 hbr hi hz0 hz1 hz2
      go_wp2
      go_ret
      exact ⟨rfl, HB.out⟩
end Go.Proofs.YtphhkfelpckilaaGreatDoor

namespace Go.Proofs.YtphhkfelpckilaaGreatDoor
open Go Go.RowKit Go.Lib Go.Sort
attribute [local irreducible] Go.wpQuiet

/-- Whatever is the position lies from i on and before j. -/
def Betw (L : List PosA) (y : PosS) (i j : Nat) : Prop := ∀ t (h : t < L.length), (L[t]).p = y → i ≤ t ∧ t < j
theorem betw_lo {L : List PosA} {y : PosS} {i j h : Nat} (hb : Betw L y i j) (hs : Srt (L.map (·.p))) (hh : h < L.length) (hc : cmpP y (L[h]).p = 1) : Betw L y (h + 1) j := by
  intro t ht he
  refine ⟨?_, (hb t ht he).2⟩
  by_cases hlt : h < t
  · omega
  · exfalso
    by_cases e : h = t
    · subst e; rw [he, cmpP_self] at hc; omega
    · have := srt_lt hs (i := t) (j := h) (by omega) (by simpa using hh)
      have h1 : cmpP (L[t]).p (L[h]).p = -1 := by simpa using this
      rw [he] at h1; omega
theorem betw_hi {L : List PosA} {y : PosS} {i j h : Nat} (hb : Betw L y i j) (hs : Srt (L.map (·.p))) (hh : h < L.length) (hc : cmpP y (L[h]).p = -1) : Betw L y i h := by
  intro t ht he
  refine ⟨(hb t ht he).1, ?_⟩
  by_cases hlt : t < h
  · exact hlt
  · exfalso
    by_cases e : h = t
    · subst e; rw [he, cmpP_self] at hc; omega
    · have := srt_lt hs (i := h) (j := t) (by omega) (by simpa using ht)
      have h1 : cmpP (L[h]).p (L[t]).p = -1 := by simpa using this
      rw [he] at h1
      have := cmpP_flip h1
      omega
set_option maxRecDepth 100000 in
set_option maxHeartbeats 1500000 in
theorem rfind_any (L : List PosA) (y : PosA) (a : Option Addr) (cap N : Nat) (w : World) (hN : N ≤ w.heap.size) (hl : L.length ≤ 1000) (hs : Srt (L.map (·.p))) (hOK : ∀ x ∈ L, AOk N w x) (hy : AOk N w y) (hP : PsIn w a L) :
    Calls Tryz.prog 25 #[.slice a L.length cap, y.val] w fun e w' => e = .returned (.int .i64 (findS (L.map (·.p)) y.p)) ∧ Below w.heap.size w w' := by
  have hA : Below w.heap.size w (w.alloc (.cells y.enc.toArray 32)) := below_alloc (Below.refl _ _) _
  have hY1 := ps_one (World.alloc_heap_new w (.cells y.enc.toArray 32))
  have hN1 := Nat.le_trans hN hA.size
  have HL := Lib.hid (fun x hx => (hOK x hx).up hN hA)
  have HY := Lib.hid (hy.up hN hA)
  have HP := Lib.hid (hP.up hA)
  have HA := Lib.hid hA
  have HQ := Lib.hid hY1
  have HS := Lib.hid hs
  obtain ⟨R, hR⟩ : ∃ R, findS (L.map (·.p)) y.p = R := ⟨_, rfl⟩
  have HR := Lib.hid hR
  rw [hR]
  clear hOK hy hP hY1 hA hs hR
  unfold PosA.enc at HL HY HP HA HQ hN1
  unfold PosA.val PosV
  go_enter Tryz.func25, Tryz.ntmps25
  go_upto_region 1 with (fail)
  generalize w.alloc (.cells #[.slice y.a y.p.cells.length y.c, .slice y.a0 y.p.h0.length y.c0, .slice y.a1 y.p.h1.length y.c1, .int .i64 y.p.rights, .int .i64 y.p.side] 32) = w0 at *
  go_wp2_with fail
  go_loopw [5, 6] (fun i j wr => ∃ i' j' : Nat, i = .int .i64 i' ∧ j = .int .i64 j' ∧ i' ≤ j' ∧ j' ≤ L.length ∧ Hid (Betw L y.p i' j') ∧ Hid (Below w0.heap.size w0 wr)) (fun i j _ => (intOf j).toNat - (intOf i).toNat)
  case atStart => exact ⟨0, L.length, rfl, rfl, Nat.zero_le _, Nat.le_refl _, Lib.hid (fun t h _ => ⟨Nat.zero_le _, h⟩), Lib.hid (Below.refl _ _)⟩
  case round =>
    obtain ⟨i, j, rfl, rfl, hij, hjl, HB, hb⟩ := hrel
    by_cases hlt : i < j
    · have t1 : decide ((i : Int) < (j : Int)) = true := by simp; omega
      obtain ⟨h, hh⟩ : ∃ h, h = (i + j) / 2 := ⟨_, rfl⟩
      have hhl : h < L.length := by omega
      have hi3 := IntWalk.i64_in ((i : Int) + (j : Int)) (by omega)
      have he : ((i : Int) + (j : Int)).tdiv 2 = (h : Int) := by rw [Int.tdiv_eq_ediv_of_nonneg (by omega)]; omega
      have he2 : ((i : Int) + (j : Int)) / 2 = (h : Int) := by omega
      have hi4 : IntKind.i64.wrap (h : Int) = (h : Int) := IntWalk.i64_in _ (by omega)
      have hi5 : IntKind.i64.wrap ((h : Int) + 1) = (h : Int) + 1 := IntWalk.i64_in _ (by omega)
      have t3 : (0 : Int) ≤ (h : Int) := by omega
      have t4 : (h : Int) < (L.length : Int) := by omega
      obtain ⟨x, hx⟩ : ∃ x, L[h] = x := ⟨_, rfl⟩
      obtain ⟨b, off, ha, hPA⟩ := (HP.out.resolve_left (by intro h; rw [h] at hhl; simp at hhl))
      subst ha
      have hT := TwoB.of2 (hPA.up hb.out) (HQ.out.up hb.out) hhl (show 0 < [y].length by simp) hx rfl
      rw [Nat.zero_add, Nat.zero_mul] at hT
      have hxo := (HL.out x (by rw [← hx]; exact List.getElem_mem _)).up hN1 hb.out
      have hyo := HY.out.up hN1 hb.out
      have hsw := hb.out.size
      have HCM := Lib.hid (fun W (h : Below wr.heap.size wr W) => rcompare_any y x N W (hyo.up (Nat.le_trans hN1 hsw) h) (hxo.up (Nat.le_trans hN1 hsw) h) (Nat.le_trans hN1 (Nat.le_trans hsw h.size)))
      unfold PosA.val PosV at HCM
      have hlo := fun hc => betw_lo HB.out HS.out hhl (by rw [hx]; exact hc)
      have hhi := fun hc => betw_hi HB.out HS.out hhl (by rw [hx]; exact hc)
      have hfd : cmpP y.p x.p = 0 → R = (h : Int) := fun hc => by
        rw [← HR.out]
        exact findS_at HS.out (by simpa using hhl) (by simpa [hx] using ((cmpP_ok.eq0 _ _).1 hc).symm)
      have hrng := cmpP_ok.rng y.p x.p
      generalize cmpP y.p x.p = C at *
      have HLO := Lib.hid hlo
      have HHI := Lib.hid hhi
      have HFD := Lib.hid hfd
      have HHH := Lib.hid hh
      clear hx hPA hxo hyo hsw hlo hhi hfd hh
      go_upto_region 5 with (fail)
      refine wp_region_quiet (C := TwoB wr b (off + h * 5) w.heap.size 0 x y) (by kernel_rfl) (by kernel_rfl) (hT.up (Below.refl _ _).drew) ?_
      dsimp only
      iterate 5
        refine wpQuiet_val (v := ?_) (by rfl) ?_ ?_
        rotate_left
        · ((intro W hW; (try cases hW); go_simp); try with_reducible rfl)
        (try simp only [Act.put, List.setIfInBounds_toArray, List.set_cons_zero, List.set_cons_succ])
      refine wpQuiet_val (v := .int .i64 C) (by rfl) (fun W hW => ?_) ?_
      · go_simp
        exact (HCM.out W hW.b).mono fun e w' ⟨he, hb⟩ => ⟨he, hW.up hb⟩
      (try simp only [Act.put, List.setIfInBounds_toArray, List.set_cons_zero, List.set_cons_succ])
      refine wpQuiet_val (v := ?_) (by rfl) ?_ ?_
      rotate_left
      · ((intro W hW; (try cases hW); go_simp); try with_reducible rfl)
      (try simp only [Act.put, List.setIfInBounds_toArray, List.set_cons_zero, List.set_cons_succ])
      refine wpQuiet_nil (fun W hW => ?_)
      have HBN := Lib.hid (below_step hb.out hW.b)
      clear hT hW HCM hb he he2 hi3 t3 t4
      rcases hrng with rfl | rfl | rfl
      · have HBJ := Lib.hid (HHI.out rfl)
        clear HLO HHI HFD hi5 hi4
        go_wp2
        go_roundw
        case rel => exact ⟨i, h, rfl, rfl, by have := HHH.out; omega, by omega, HBJ, HBN⟩
        case measure => have := HHH.out; simp [intOf]; omega
      · have HRF := Lib.hid (HFD.out rfl)
        clear HLO HHI HFD
        go_wp2
        go_ret
        exact ⟨by rw [HRF.out]; rfl, HA.out.trans (HBN.out.mono HA.out.size)⟩
      · have HBJ := Lib.hid (HLO.out rfl)
        clear HLO HHI HFD
        go_wp2
        go_roundw
        case rel => exact ⟨h + 1, j, by go_num, rfl, by have := HHH.out; omega, hjl, HBJ, HBN⟩
        case measure => have := HHH.out; simp [intOf]; omega
    · obtain rfl : i = j := by omega
      have t1 : decide ((i : Int) < (i : Int)) = false := by simp
      have HRF := Lib.hid (show R = -1 by
        rw [← HR.out]
        apply findS_none
        rw [List.mem_map]
        rintro ⟨x, hx, e⟩
        obtain ⟨t, ht, rfl⟩ := List.mem_iff_getElem.1 hx
        have := HB.out t ht e
        omega)
      have HBN := hb
      clear hb
      go_wp2
      go_ret
      exact ⟨by rw [HRF.out]; rfl, HA.out.trans (HBN.out.mono HA.out.size)⟩
end Go.Proofs.YtphhkfelpckilaaGreatDoor

namespace Go.Proofs.YtphhkfelpckilaaGreatDoor
open Go Go.RowKit

theorem countTo_take (nk : Nat) (side : Int) (l : List Int) {k : Nat} (hk : k < l.length) : countTo nk side (l.take (k + 1)) = cStep side (countTo nk side (l.take k)) (l[k]?.getD 0) := by
  unfold countTo
  rw [List.take_add_one, List.foldl_append, List.getElem?_eq_getElem hk]
  rfl
theorem cnt_in (nk : Nat) (side : Int) : ∀ (l acc : List Int), (∀ i : Nat, 0 ≤ acc[i]?.getD 0) → ∀ (B : Nat), (∀ i : Nat, acc[i]?.getD 0 ≤ B) → ∀ i : Nat, 0 ≤ (l.foldl (cStep side) acc)[i]?.getD 0 ∧ (l.foldl (cStep side) acc)[i]?.getD 0 ≤ (B + l.length : Nat)
  | [], acc, h0, B, hB, i => ⟨h0 i, by simpa using hB i⟩
  | x :: l, acc, h0, B, hB, i => by
    have key : ∀ j : Nat, 0 ≤ (cStep side acc x)[j]?.getD 0 ∧ (cStep side acc x)[j]?.getD 0 ≤ ((B + 1 : Nat) : Int) := by
      intro j
      have a1 := h0 j
      have a2 := hB j
      unfold cStep
      split
      · rename_i hc
        by_cases e : (manK x).toNat = j
        · subst e
          rw [List.getElem?_set_self (by omega), Option.getD_some]
          omega
        · rw [List.getElem?_set_ne e]; omega
      · omega
    have := cnt_in nk side l (cStep side acc x) (fun j => (key j).1) (B + 1) (fun j => (key j).2) i
    rw [List.foldl_cons, List.length_cons]
    omega
theorem cStep_no {side : Int} {acc : List Int} {x : Int} (h : ¬ (manS x = side ∧ 0 ≤ manK x)) : cStep side acc x = acc := by
  unfold cStep
  rw [if_neg (fun hc => h ⟨hc.1, hc.2.1⟩)]
set_option maxRecDepth 100000 in
set_option maxHeartbeats 1500000 in
theorem rcount_any (nk : Nat) (side : Int) (v0 vn vt vr vm vc vb ve : Value) (p : PosS) (ak b b0 b1 : Option Addr) (ck c c0 c1 N : Nat) (w : World) (h1 : 1 ≤ nk) (hnk : nk ≤ 2) (hlc : p.cells.length ≤ 9) (hin : ∀ i : Nat, 0 ≤ p.cells[i]?.getD 0 ∧ p.cells[i]?.getD 0 ≤ 2 * (nk : Int)) (hN : N ≤ w.heap.size) (hP : PosIn N w b b0 b1 p) :
    Calls Tryz.prog 30 #[.agg #[v0, vn, vt, .slice ak nk ck, vr, vm, vc, vb, ve], PosV b b0 b1 c c0 c1 p, .int .i64 side] w fun e w' => ∃ g cap, e = .returned (.slice (some ⟨g, 0, none⟩) nk cap) ∧ OwnInts w.heap.size w' (.slice (some ⟨g, 0, none⟩) nk cap) (countTo nk side p.cells) ∧ Below w.heap.size w w' := by
  have hA : Below w.heap.size w ((w.alloc (.cells #[v0, vn, vt, .slice ak nk ck, vr, vm, vc, vb, ve] 41)).alloc (.cells #[.slice b p.cells.length c, .slice b0 p.h0.length c0, .slice b1 p.h1.length c1, .int .i64 p.rights, .int .i64 p.side] 32)) := below_alloc (below_alloc (Below.refl _ _) _) _
  have hX : ((w.alloc (.cells #[v0, vn, vt, .slice ak nk ck, vr, vm, vc, vb, ve] 41)).alloc (.cells #[.slice b p.cells.length c, .slice b0 p.h0.length c0, .slice b1 p.h1.length c1, .int .i64 p.rights, .int .i64 p.side] 32)).heap[w.heap.size + 1]? = some (.cells #[.slice b p.cells.length c, .slice b0 p.h0.length c0, .slice b1 p.h1.length c1, .int .i64 p.rights, .int .i64 p.side] 32 (0, 0)) := hp_new_at _ _ (by simp)
  have hG : ((w.alloc (.cells #[v0, vn, vt, .slice ak nk ck, vr, vm, vc, vb, ve] 41)).alloc (.cells #[.slice b p.cells.length c, .slice b0 p.h0.length c0, .slice b1 p.h1.length c1, .int .i64 p.rights, .int .i64 p.side] 32)).heap[w.heap.size]? = some (.cells #[v0, vn, vt, .slice ak nk ck, vr, vm, vc, vb, ve] 41 (0, 0)) := hp_old_at (World.alloc_heap_new _ _)
  unfold PosV
  go_enter Tryz.func30, Tryz.ntmps30
  go_upto_region 1 with (fail)
  generalize (w.alloc (.cells #[v0, vn, vt, .slice ak nk ck, vr, vm, vc, vb, ve] 41)).alloc (.cells #[.slice b p.cells.length c, .slice b0 p.h0.length c0, .slice b1 p.h1.length c1, .int .i64 p.rights, .int .i64 p.side] 32) = w0 at *
  have HP0 := Lib.hid (hP.up hN hA)
  have HX := Lib.hid hX
  have HA := Lib.hid hA
  have hxl := bx_lt hX
  have hs0 := hA.size
  have g3 := bx_cell hG 3 rfl
  have HIN := Lib.hid hin
  have hz : OwnInts w0.heap.size (w0.alloc (.cells (zerosA nk) 3)) (.slice (some ⟨w0.heap.size, 0, none⟩) nk nk) (countTo nk side (p.cells.take 0)) := own_zeros (World.alloc_heap_new _ _) (Nat.le_refl _) (by omega)
  have HLEN := Lib.hid (fun k => countTo_len nk side (p.cells.take k))
  have HAC : Hid (∀ (k i : Nat), i < nk → 0 ≤ (countTo nk side (p.cells.take k))[i]?.getD 0 ∧ (countTo nk side (p.cells.take k))[i]?.getD 0 ≤ 100) := Lib.hid (fun k i hi => by
    have h := cnt_in nk side (p.cells.take k) (List.replicate nk 0) (fun j => by by_cases hj : j < nk <;> simp [hj]) 0 (fun j => by by_cases hj : j < nk <;> simp [hj]) i
    have hl : (p.cells.take k).length ≤ 9 := by rw [List.length_take]; omega
    unfold countTo
    omega)
  clear hP hX hA hG hin
  go_upto_block 0 with (at_make; go_loud (refine wpList_zeros rfl (.tmp 11) (.tmp 11) rfl nk (by omega) rfl rfl ?_))
  clear g3
  go_wp2_with fail
  go_loopw [8] (fun i wr => ∃ k : Nat, k ≤ p.cells.length ∧ i = .int .i64 k ∧ OwnInts w0.heap.size wr (.slice (some ⟨w0.heap.size, 0, none⟩) nk nk) (countTo nk side (p.cells.take k)) ∧ Below w0.heap.size w0 wr) (fun i _ => p.cells.length - (intOf i).toNat)
  case atStart => exact ⟨0, Nat.zero_le _, rfl, hz, below_alloc (Below.refl _ _) _⟩
  case round =>
    clear hz
    obtain ⟨k, hk, rfl, hO, hb⟩ := hrel
    generalize wr = w5 at *
    have hX5 := (hb.block _ hxl).trans HX.out
    have p0 := bx_cell hX5 0 rfl
    have hs5 := hb.size
    by_cases hlt : k < p.cells.length
    · have t1 : decide (k < p.cells.length) = true := by simpa using hlt
      have t1' : decide ((k : Int) < (p.cells.length : Int)) = true := by simpa using hlt
      have t3 : (0 : Int) ≤ (k : Int) := by omega
      have t4 : (k : Int) < (p.cells.length : Int) := by omega
      obtain ⟨bb, off, hbe, hbN, hc⟩ := ((HP0.out.up (Nat.le_trans hN hs0) (hb)).cells).at_ hlt
      subst hbe
      have hx := HIN.out k
      have HSC := Lib.hid (countTo_take nk side p.cells hlt)
      have hlen := HLEN.out k
      have hac := HAC.out k
      generalize p.cells[k]?.getD 0 = xv at *
      have HLN := Lib.hid hlen
      generalize countTo nk side (p.cells.take k) = acc at *
      have HACK := Lib.hid hac
      clear hX5 hlen hac
      by_cases hx0 : 0 < xv
      · have d1 : decide (0 < xv) = true := by simpa using hx0
        have hS : manS xv = (xv - 1) % 2 := by unfold manS; rw [if_pos (by omega)]
        have hK : manK xv = (xv - 1) / 2 := by unfold manK; rw [if_pos (by omega)]
        have e1 : (xv - 1).tmod 2 = (xv - 1) % 2 := Int.tmod_eq_emod_of_nonneg (by omega)
        have e2 : (xv - 1).tdiv 2 = (xv - 1) / 2 := Int.tdiv_eq_ediv_of_nonneg (by omega)
        have w1 : IntKind.i64.wrap (xv - 1) = xv - 1 := IntWalk.i64_in _ (by omega)
        have HS := Lib.hid hS
        have HK := Lib.hid hK
        obtain ⟨kd, hkd⟩ := Int.eq_ofNat_of_zero_le (show 0 ≤ (xv - 1) / 2 by omega)
        have hkl : kd < nk := by omega
        rw [hkd] at e2
        have HKD := Lib.hid hkd
        have w2 : IntKind.i64.wrap ((xv - 1) % 2) = (xv - 1) % 2 := IntWalk.i64_in _ (by omega)
        have w3 : IntKind.i64.wrap (kd : Int) = (kd : Int) := IntWalk.i64_in _ (by omega)
        clear hS hK hkd
        by_cases hsd : (xv - 1) % 2 = side
        · have d2 : ((xv - 1) % 2 == side) = true := by rw [beq_iff_eq]; exact hsd
          have hst : cStep side acc xv = acc.set kd (acc[kd]?.getD 0 + 1) := by
            unfold cStep
            rw [HS.out, HK.out, HKD.out, if_pos ⟨hsd, by omega, by rw [HLN.out]; omega⟩]
            rfl
          have HST := Lib.hid hst
          have hcs : 0 ≤ acc[kd]?.getD 0 ∧ acc[kd]?.getD 0 ≤ 1000 := by
            have := HACK.out kd hkl
            omega
          obtain ⟨z1, z2⟩ := hO.cellAt (j := kd) (by rw [HLN.out]; exact hkl)
          have t5 : (0 : Int) ≤ (kd : Int) := by omega
          have t6 : (kd : Int) < (nk : Int) := by omega
          generalize acc[kd]?.getD 0 = av at *
          have w4 : IntKind.i64.wrap (av + 1) = av + 1 := IntWalk.i64_in _ (by omega)
          have HO2 := Lib.hid (hO.set kd (av + 1))
          have HB := Lib.hid hb
          clear hsd hst hO hb
          go_wp2_with fail
          go_roundw
          case rel => exact ⟨k + 1, by omega, by go_num, by rw [HSC.out, HST.out]; exact HO2.out, HB.out.trans ((alters_cell w5 w0.heap.size kd _).below hs5 (fun k hk => by omega))⟩
          case measure => simp [intOf]; omega
        · have d2 : ((xv - 1) % 2 == side) = false := by rw [beq_eq_false_iff_ne]; exact hsd
          have HST := Lib.hid (show cStep side acc xv = acc from cStep_no (fun hc => hsd (by rw [← HS.out]; exact hc.1)))
          clear hsd
          go_wp2_with fail
          go_roundw
          case rel => exact ⟨k + 1, by omega, by go_num, by rw [HSC.out, HST.out]; exact hO, hb⟩
          case measure => simp [intOf]; omega
      · have d1 : decide (0 < xv) = false := by simpa using hx0
        have HST := Lib.hid (show cStep side acc xv = acc from cStep_no (fun hc => by
          have h := hc.2
          have : manK xv = -1 := by unfold manK; rw [if_neg (by omega)]
          omega))
        clear hx0
        go_wp2_with fail
        go_roundw
        case rel => exact ⟨k + 1, by omega, by go_num, by rw [HSC.out, HST.out]; exact hO, hb⟩
        case measure => simp [intOf]; omega
    · obtain rfl : k = p.cells.length := by omega
      have t1 : decide (p.cells.length < p.cells.length) = false := by simp
      have t1' : decide ((p.cells.length : Int) < (p.cells.length : Int)) = false := by simp
      have HO := Lib.hid (show OwnInts w.heap.size w5 (.slice (some ⟨w0.heap.size, 0, none⟩) nk nk) (countTo nk side p.cells) by
        rw [List.take_of_length_le (Nat.le_refl _)] at hO
        exact hO.mono hs0)
      have HBE := Lib.hid (HA.out.trans (hb.mono hs0))
      clear hO hb hX5
      go_wp2
      go_ret
      exact ⟨_, _, rfl, HO.out, HBE.out⟩
end Go.Proofs.YtphhkfelpckilaaGreatDoor
