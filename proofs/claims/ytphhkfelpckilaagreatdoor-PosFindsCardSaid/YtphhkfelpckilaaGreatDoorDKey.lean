/-
  The closure of Key: it appends bytes to a list in a box.
-/
import Derived.Test.YtphhkfelpckilaaGreatDoorDNum
import Derived.Maps.AppendAt
import Derived.OwnWalk
namespace Go.Proofs.YtphhkfelpckilaaGreatDoor
open Go Go.RowKit

def OwnBy (n : Nat) (W : World) (v : Value) (l : List Int) : Prop := W.ownsRow n 5 1 v l.length (l.map (Value.int .u8))
def byteI (x : Int) : Int := x % 256
theorem alters_own {B : Nat} {o o2 : Option Nat} {A C D : World} (h1 : Alters (fun k => k = B ∨ some k = o) A C) (h2 : Alters (fun k => k = B ∨ some k = o2) C D) (ho : o2 = o ∨ ∃ g, o2 = some g ∧ A.heap.size ≤ g) :
    Alters (fun k => k = B ∨ some k = o) A D :=
  ⟨h2.os.trans h1.os, h2.tape.trans h1.tape, h2.output.trans h1.output, Nat.le_trans h1.size h2.size, fun k hk hs => (h2.block k (Nat.lt_of_lt_of_le hk h1.size) (by
    rintro (e | e)
    · exact hs (.inl e)
    · rcases ho with rfl | ⟨g, rfl, hg⟩
      · exact hs (.inr e)
      · cases e; omega)).trans (h1.block k hk hs)⟩
theorem own_later {o o2 o3 : Option Nat} {n m : Nat} (h : o2 = o ∨ ∃ g, o2 = some g ∧ n ≤ g) (h2 : o3 = o2 ∨ o3 = some m) (hm : n ≤ m) : o3 = o ∨ ∃ g, o3 = some g ∧ n ≤ g := by
  rcases h2 with rfl | rfl
  · exact h
  · exact .inr ⟨m, rfl, hm⟩
theorem info_u8 : (Tryz.prog.info? 5).map (fun i => (i.zero, i.size, i.bytes)) = some (some (.int .u8 0), 1, 1) := by kernel_rfl

set_option maxRecDepth 100000 in
set_option maxHeartbeats 2000000 in
theorem put_any (l K : List Int) (a : Option Addr) (ct B h N : Nat) (v : Value) (w : World) (hKl : K.length + l.length ≤ 140737488355328) (hI : Ints N w a l) (hB : Boxed w B 22 v) (ho : OwnBy h w v K) (hh : h ≤ w.heap.size)
    (hne : ∀ b off, 0 < l.length → a = some ⟨b, off, none⟩ → b < w.heap.size ∧ b ≠ B ∧ ¬ some b = v.ownBlock) :
    Calls Tryz.prog 50 #[.slice a l.length ct, .pointer (some ⟨B, 0, none⟩)] w fun e w' => e = .returned (.tuple #[]) ∧ ∃ v', Boxed w' B 22 v' ∧ OwnBy h w' v' (K ++ l.map byteI) ∧
      Alters (fun k => k = B ∨ some k = v.ownBlock) w w' ∧ (v'.ownBlock = v.ownBlock ∨ ∃ g, v'.ownBlock = some g ∧ w.heap.size ≤ g) := by
  obtain ⟨i0, hi, hz0, hz1, hz2⟩ := info_parts info_u8
  have HI := Lib.hid hI
  have HNE := Lib.hid hne
  have hBl := hB.lt
  clear hI hne
  go_enter Tryz.func50, Tryz.ntmps50
  go_wp2
  go_loopw [7] (fun i wr => ∃ q : Nat, q ≤ l.length ∧ i = .int .i64 q ∧ ∃ v', Boxed wr B 22 v' ∧ OwnBy h wr v' (K ++ (l.take q).map byteI) ∧
      Alters (fun k => k = B ∨ some k = v.ownBlock) w wr ∧ (v'.ownBlock = v.ownBlock ∨ ∃ g, v'.ownBlock = some g ∧ w.heap.size ≤ g)) (fun i _ => l.length - (intOf i).toNat)
  case atStart => exact ⟨0, Nat.zero_le _, rfl, v, hB, by simpa using ho, Alters.refl _ _, .inl rfl⟩
  case round =>
    clear hB ho
    obtain ⟨q, hq, rfl, vr, hb, ho, ha, hv⟩ := hrel
    by_cases hlt : q < l.length
    · obtain ⟨b, off, hab, hbN, hc⟩ := HI.out.at_ hlt
      subst hab
      obtain ⟨n1, n2, n3⟩ := HNE.out b off (by omega) rfl
      have hcr : wr.cell? ⟨b, off + q, none⟩ = some (.int .i64 (l[q]?.getD 0)) := (World.cell?_of_block (a := ⟨b, off + q, none⟩) (ha.block b n1 (by rintro (h | h); exact n2 h; exact n3 h))).trans hc
      have e : (K ++ (l.take (q + 1)).map byteI) = (K ++ (l.take q).map byteI) ++ [byteI (l[q]?.getD 0)] := by
        have e : l.take (q + 1) = l.take q ++ [l[q]?.getD 0] := by rw [List.take_add_one]; simp [hlt]
        rw [e, List.map_append, List.append_assoc]; rfl
      have hLl : (K ++ (l.take q).map byteI).length < 140737488355328 := by simp; omega
      generalize l[q]?.getD 0 = x at hcr e
      generalize K ++ (l.take q).map byteI = L at *
      have HE := Lib.hid e
      have HL := Lib.hid hLl
      have HA := Lib.hid ha
      have HV := Lib.hid hv
      have HB := Lib.hid hb
      have HO := Lib.hid ho
      have b1 := hb.cell
      have b2 := hb.frozen
      have hsz := ha.size
      clear hc e hLl ha hv hb ho n1 n2 n3
      go_wp2_with (at_builtin; go_loud (refine wpList_append_own_at _ rfl (.tmp 11) (.tmp 14) 22 rfl h 5 i0 (.int .u8 0) 1 1 Tryz.underlying22 hi hz0 hz1 hz2 rfl (by decide) vr L.length (L.map (.int .u8)) rfl (World.ownsRow.alloc HO.out _) ⟨wr.heap.size, 0, none⟩ 1 1 [.int .u8 (x % 256)] rfl rfl (cell_one_new _ _ _) (by simp [Value.oneCell']) (by unfold maxLen; have := HL.out; omega) (by have := HL.out; omega) (by simp; omega) ?_; intro v8 w8 own8 g8 hnil8 h58; obtain ⟨g9, cap9, rfl⟩ := ownsRow_succ own8; have H8 := Lib.hid (appended_at HB.out (by decide) HO.out own8 g8); have b3 := H8.out.1.cell; have b4 := H8.out.1.frozen; have HV8 := Lib.hid (own_later HV.out h58 (by simp; omega)); clear own8 g8 b1 b2 hnil8 h58))
      clear hi hz0 hz1 hz2
      go_roundw
      case rel => exact ⟨q + 1, by omega, by simp, _, H8.out.2.1, by rw [HE.out]; have h9 := H8.out.2.2.1; simpa [OwnBy, byteI] using h9, alters_own HA.out H8.out.2.2.2.2 HV.out, HV8.out⟩
      case measure => simp [intOf]; omega
    · obtain rfl : q = l.length := by omega
      rw [List.take_length] at ho
      have HO := Lib.hid (And.intro hb (And.intro ho (And.intro ha hv)))
      clear hb ho ha hv hi hz0 hz1 hz2
      go_wp2
      refine bodyPost_end (v := .tuple #[]) (results_none rfl _ _ _) rfl ?_
      exact ⟨rfl, _, HO.out.1, HO.out.2.1, HO.out.2.2.1, HO.out.2.2.2⟩
end Go.Proofs.YtphhkfelpckilaaGreatDoor
