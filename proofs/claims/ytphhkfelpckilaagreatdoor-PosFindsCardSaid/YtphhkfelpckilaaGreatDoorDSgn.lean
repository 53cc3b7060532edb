/-
  The signs of a list, one after the other.
-/
import Derived.Test.YtphhkfelpckilaaGreatDoorDSign
import Derived.Test.YtphhkfelpckilaaGreatDoorShelf
import Derived.Lib.Builder
namespace Go.Proofs.YtphhkfelpckilaaGreatDoor
open Go Go.RowKit

def signsS (s : List UInt8) (l : List Int) : List UInt8 := (l.map (signS s)).flatten
theorem signsS_succ (s : List UInt8) (l : List Int) (q : Nat) (h : q < l.length) : signsS s (l.take (q + 1)) = signsS s (l.take q) ++ signS s (l[q]?.getD 0) := by
  have e : l.take (q + 1) = l.take q ++ [l[q]?.getD 0] := by rw [List.take_add_one]; simp [h]
  unfold signsS
  rw [e, List.map_append, List.flatten_append]
  simp
theorem signS_len (s : List UInt8) (n : Int) : (signS s n).length ≤ 1 := by unfold signS; split <;> simp
theorem signsS_len (s : List UInt8) (l : List Int) : (signsS s l).length ≤ l.length := by
  unfold signsS
  induction l with
  | nil => simp
  | cons a l ih => have := signS_len s a; simp only [List.map_cons, List.flatten_cons, List.length_append, List.length_cons]; omega

theorem writeString_any (B b : Nat) (L x : List UInt8) (w : World) (h : Lib.IsBuilder 145 5 B b (Lib.byteCells L) w) (hlen : L.length + x.length ≤ 140737488355328) (hB : B ≤ w.heap.size) :
    Calls Tryz.prog 93 #[.pointer (some ⟨b, 0, none⟩), .string ⟨x.toArray⟩] w fun e w' => (∃ v, e = .returned v) ∧ Lib.IsBuilder 145 5 B b (Lib.byteCells (L ++ x)) w' ∧ Below B w w' := by
  have hW := Any.Builder_WriteString (P := Tryz.prog) (ρ := Tryz.lays156_ren) { Tryz.lays156 with } Tryz.Builder_Extra_156 B b (Lib.byteCells L) ⟨x.toArray⟩ w h (by simp [Lib.byteCells, ByteArray.size]; omega) hB
  refine Calls.mono hW ?_
  rintro e w' ⟨rfl, h1, h2⟩
  refine ⟨⟨_, rfl⟩, .inr ?_, h2⟩
  have e : Lib.byteCells (L ++ x) = Lib.byteCells L ++ Lib.strCells ⟨x.toArray⟩ := by simp [Lib.byteCells, Lib.strCells]
  rw [e]
  exact h1

set_option maxRecDepth 100000 in
set_option maxHeartbeats 2000000 in
theorem signed_any (s : List UInt8) (l : List Int) (a : Option Addr) (ct N : Nat) (w : World) (hs : s.length ≤ 100) (hl : l.length ≤ 1000000) (hN : N ≤ w.heap.size) (hI : Ints N w a l) :
    Calls Tryz.prog 74 #[.slice a l.length ct, .func (.func 75) #[.string ⟨s.toArray⟩] #[]] w fun e w' => e = .returned (.string ⟨(signsS s l).toArray⟩) ∧ Below w.heap.size w w' := by
  have HI := Lib.hid hI
  clear hI
  obtain ⟨h, eh⟩ : ∃ h, h = w.heap.size := ⟨_, rfl⟩
  go_enter Tryz.func74, Tryz.ntmps74
  go_upto_region 2 with (fail)
  have hb0 : Below w.heap.size w (w.alloc (.cells #[.pointer none, .slice none 0 0] 145)) := below_alloc (Below.refl _ _) _
  have hf := Lib.fresh_isBuilder 145 5 w
  generalize w.alloc (.cells #[.pointer none, .slice none 0 0] 145) = w1 at *
  rw [← eh] at hb0 hf hN ⊢
  have HF := Lib.hid (show Lib.IsBuilder 145 5 h h (Lib.byteCells (signsS s (l.take 0))) w1 from hf)
  have EH := Lib.hid eh
  clear hf eh
  go_wp2
  go_loopw [10] (fun i wr => ∃ q : Nat, q ≤ l.length ∧ i = .int .i64 q ∧ Hid (Lib.IsBuilder 145 5 h h (Lib.byteCells (signsS s (l.take q))) wr) ∧ Below h w wr)
    (fun i _ => l.length - (intOf i).toNat)
  case atStart => exact ⟨0, Nat.zero_le _, rfl, HF, hb0⟩
  case round =>
    clear hb0 HF
    obtain ⟨q, hq, rfl, hf, hb⟩ := hrel
    have hsz := hb.size
    have hh : h ≤ wr.heap.size := by have := EH.out; omega
    by_cases hlt : q < l.length
    · obtain ⟨b, off, hab, hbN, hc⟩ := (HI.out.below (hb.mono hN)).at_ hlt
      subst hab
      have hsuc := signsS_succ s l q hlt
      have hlen := signsS_len s (l.take q)
      rw [List.length_take] at hlen
      have hx1 := signS_len s (l[q]?.getD 0)
      generalize l[q]?.getD 0 = x at *
      generalize signsS s (l.take q) = L at *
      have HS := Lib.hid hsuc
      have hsg := Lib.hid (sign_any s x wr hs)
      have hws := Lib.hid (writeString_any h h L (signS s x) wr hf.out (by omega) hh)
      clear hsuc hlen hx1 hf
      go_wp2_with (first | (go_at_call 75; refine hsg.out.mono ?_; rintro e w2 ⟨rfl, rfl⟩) | (go_at_call 93; refine hws.out.mono ?_; rintro e w3 ⟨⟨v, rfl⟩, hf3, hb3⟩))
      have HF3 := Lib.hid hf3
      clear hf3
      go_roundw
      case rel => exact ⟨q + 1, by omega, by simp, Lib.hid (by rw [HS.out]; exact HF3.out), hb.trans hb3⟩
      case measure => simp [intOf]; omega
    · obtain rfl : q = l.length := by omega
      rw [List.take_length] at hf
      have hst := Lib.hid (Tryz.Builder_String_any h h (signsS s l) wr hf.out hh)
      clear hf
      go_wp2_with (go_at_call 94; refine hst.out.mono ?_; rintro e w3 ⟨rfl, hb3⟩)
      go_ret
      exact ⟨rfl, by rw [← EH.out]; exact hb.trans hb3⟩
end Go.Proofs.YtphhkfelpckilaaGreatDoor
