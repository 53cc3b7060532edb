/-
  The closure of Key: it appends bytes to a list in a box.
  Key of the package pos.
-/
import Derived.Test.YtphhkfelpckilaaGreatDoorDNums
import Derived.Maps.AppendAt
import Derived.OwnWalk
import Derived.Test.YtphhkfelpckilaaGreatDoorDCopy
import Derived.Laws.BytesArg
namespace Go.Proofs.YtphhkfelpckilaaGreatDoor
open Go Go.RowKit

def OwnBy (n : Nat) (W : World) (v : Value) (l : List Int) : Prop := W.ownsRow n 5 1 v l.length (l.map (Value.int .u8))
def byteI (x : Int) : Int := x % 256
theorem alters_own {B : Nat} {o o2 : Option Nat} {A C D : World} (h1 : Alters (fun k => k = B ∨ some k = o) A C) (h2 : Alters (fun k => k = B ∨ some k = o2) C D) (ho : o2 = o ∨ ∃ g, o2 = some g ∧ A.heap.size ≤ g) :
    Alters (fun k => k = B ∨ some k = o) A D :=
  ⟨h2.os.trans h1.os, h2.tape.trans h1.tape, h2.output.trans h1.output, Nat.le_trans h1.size h2.size, fun k hk hs => (h2.block k (Nat.lt_of_lt_of_le hk h1.size) (by
    rintro (e | e)
    · exact hs (.inl e)
    · rcases ho with rfl | ⟨g, rfl, hg⟩
      · exact hs (.inr e)
      · cases e; omega)).trans (h1.block k hk hs)⟩
theorem own_later {o o2 o3 : Option Nat} {n m : Nat} (h : o2 = o ∨ ∃ g, o2 = some g ∧ n ≤ g) (h2 : o3 = o2 ∨ o3 = some m) (hm : n ≤ m) : o3 = o ∨ ∃ g, o3 = some g ∧ n ≤ g := by
  rcases h2 with rfl | rfl
  · exact h
  · exact .inr ⟨m, rfl, hm⟩
theorem info_u8 : (Tryz.prog.info? 5).map (fun i => (i.zero, i.size, i.bytes)) = some (some (.int .u8 0), 1, 1) := by kernel_rfl

set_option maxRecDepth 100000 in
set_option maxHeartbeats 2000000 in
theorem put_any (l K : List Int) (a : Option Addr) (ct B h N : Nat) (v : Value) (w : World) (hKl : K.length + l.length ≤ 140737488355328) (hI : Ints N w a l) (hB : Boxed w B 22 v) (ho : OwnBy h w v K) (hh : h ≤ w.heap.size)
    (hne : ∀ b off, 0 < l.length → a = some ⟨b, off, none⟩ → b < w.heap.size ∧ b ≠ B ∧ ¬ some b = v.ownBlock) :
    Calls Tryz.prog 50 #[.slice a l.length ct, .pointer (some ⟨B, 0, none⟩)] w fun e w' => e = .returned (.tuple #[]) ∧ ∃ v', Boxed w' B 22 v' ∧ OwnBy h w' v' (K ++ l.map byteI) ∧
      Alters (fun k => k = B ∨ some k = v.ownBlock) w w' ∧ (v'.ownBlock = v.ownBlock ∨ ∃ g, v'.ownBlock = some g ∧ w.heap.size ≤ g) := by
  obtain ⟨i0, hi, hz0, hz1, hz2⟩ := info_parts info_u8
  have HI := Lib.hid hI
  have HNE := Lib.hid hne
  have hBl := hB.lt
  clear hI hne
  go_enter Tryz.func50, Tryz.ntmps50
  go_wp2
  go_loopw [7] (fun i wr => ∃ q : Nat, q ≤ l.length ∧ i = .int .i64 q ∧ ∃ v', Boxed wr B 22 v' ∧ OwnBy h wr v' (K ++ (l.take q).map byteI) ∧
      Alters (fun k => k = B ∨ some k = v.ownBlock) w wr ∧ (v'.ownBlock = v.ownBlock ∨ ∃ g, v'.ownBlock = some g ∧ w.heap.size ≤ g)) (fun i _ => l.length - (intOf i).toNat)
  case atStart => exact ⟨0, Nat.zero_le _, rfl, v, hB, by simpa using ho, Alters.refl _ _, .inl rfl⟩
  case round =>
    clear hB ho
    obtain ⟨q, hq, rfl, vr, hb, ho, ha, hv⟩ := hrel
    by_cases hlt : q < l.length
    · obtain ⟨b, off, hab, hbN, hc⟩ := HI.out.at_ hlt
      subst hab
      obtain ⟨n1, n2, n3⟩ := HNE.out b off (by omega) rfl
      have hcr : wr.cell? ⟨b, off + q, none⟩ = some (.int .i64 (l[q]?.getD 0)) := (World.cell?_of_block (a := ⟨b, off + q, none⟩) (ha.block b n1 (by rintro (h | h); exact n2 h; exact n3 h))).trans hc
      have e : (K ++ (l.take (q + 1)).map byteI) = (K ++ (l.take q).map byteI) ++ [byteI (l[q]?.getD 0)] := by
        have e : l.take (q + 1) = l.take q ++ [l[q]?.getD 0] := by rw [List.take_add_one]; simp [hlt]
        rw [e, List.map_append, List.append_assoc]; rfl
      have hLl : (K ++ (l.take q).map byteI).length < 140737488355328 := by simp; omega
      generalize l[q]?.getD 0 = x at hcr e
      generalize K ++ (l.take q).map byteI = L at *
      have HE := Lib.hid e
      have HL := Lib.hid hLl
      have HA := Lib.hid ha
      have HV := Lib.hid hv
      have HB := Lib.hid hb
      have HO := Lib.hid ho
      have b1 := hb.cell
      have b2 := hb.frozen
      have hsz := ha.size
      clear hc e hLl ha hv hb ho n1 n2 n3
      go_wp2_with (at_builtin; go_loud (refine wpList_append_own_at _ rfl (.tmp 11) (.tmp 14) 22 rfl h 5 i0 (.int .u8 0) 1 1 Tryz.underlying22 hi hz0 hz1 hz2 rfl (by decide) vr L.length (L.map (.int .u8)) rfl (World.ownsRow.alloc HO.out _) ⟨wr.heap.size, 0, none⟩ 1 1 [.int .u8 (x % 256)] rfl rfl (cell_one_new _ _ _) (by simp [Value.oneCell']) (by unfold maxLen; have := HL.out; omega) (by have := HL.out; omega) (by simp; omega) ?_; intro v8 w8 own8 g8 hnil8 h58; obtain ⟨g9, cap9, rfl⟩ := ownsRow_succ own8; have H8 := Lib.hid (appended_at HB.out (by decide) HO.out own8 g8); have b3 := H8.out.1.cell; have b4 := H8.out.1.frozen; have HV8 := Lib.hid (own_later HV.out h58 (by simp; omega)); clear own8 g8 b1 b2 hnil8 h58))
      clear hi hz0 hz1 hz2
      go_roundw
      case rel => exact ⟨q + 1, by omega, by simp, _, H8.out.2.1, by rw [HE.out]; have h9 := H8.out.2.2.1; simpa [OwnBy, byteI] using h9, alters_own HA.out H8.out.2.2.2.2 HV.out, HV8.out⟩
      case measure => simp [intOf]; omega
    · obtain rfl : q = l.length := by omega
      rw [List.take_length] at ho
      have HO := Lib.hid (And.intro hb (And.intro ho (And.intro ha hv)))
      clear hb ho ha hv hi hz0 hz1 hz2
      go_wp2
      refine bodyPost_end (v := .tuple #[]) (results_none rfl _ _ _) rfl ?_
      exact ⟨rfl, _, HO.out.1, HO.out.2.1, HO.out.2.2.1, HO.out.2.2.2⟩
end Go.Proofs.YtphhkfelpckilaaGreatDoor

namespace Go.Proofs.YtphhkfelpckilaaGreatDoor
open Go Go.RowKit

/-- The bytes of a key. -/
def keyI (p : PosS) : List Int := p.cells.map byteI ++ p.h0.map byteI ++ p.h1.map byteI ++ [byteI p.rights, byteI p.side]
def keyS (p : PosS) : List UInt8 := (keyI p).map fun x => UInt8.ofNat x.toNat
theorem Ints.block {n : Nat} {W : World} {b off : Nat} {l : List Int} (h : Ints n W (some ⟨b, off, none⟩) l) (hl : 0 < l.length) : b < n := by
  rcases h with h | ⟨b', off', e, hn, _⟩
  · rw [h] at hl; exact absurd hl (Nat.lt_irrefl 0)
  · cases e; exact hn

/-- The list of bytes, in its box, while a key is made. -/
structure KSt (w : World) (G B : Nat) (cs : Array Value) (K : List Int) (W : World) : Prop where
  b : Below w.heap.size w W
  pb : W.heap[w.heap.size]? = some (.cells cs 32 (0, 0))
  g : G ≤ W.heap.size
  own : ∃ v, Boxed W B 22 v ∧ OwnBy G W v K
theorem KSt.next {w W w' : World} {G B : Nat} {cs : Array Value} {K K' : List Int} (h : KSt w G B cs K W) (hG : w.heap.size < G) (hB : G < B) {v v' : Value} (ho : OwnBy G W v K) (hb' : Boxed w' B 22 v') (ho' : OwnBy G w' v' K') (ha : Alters (fun k => k = B ∨ some k = v.ownBlock) W w') : KSt w G B cs K' w' := by
  have hS : ∀ k, k ≤ w.heap.size → ¬ (k = B ∨ some k = v.ownBlock) := by
    rintro k hk (h | h)
    · omega
    · have := (World.ownsRow.lt ho k h.symm).1; omega
  exact ⟨h.b.trans (ha.below (Nat.le_trans (Nat.le_of_lt hG) h.g) (fun k hk => by rcases Nat.lt_or_ge w.heap.size k with hlt | hge; exact Nat.le_of_lt hlt; exact absurd hk (hS k hge))),
    (ha.block _ (bx_lt h.pb) (hS _ (Nat.le_refl _))).trans h.pb, Nat.le_trans h.g ha.size, v', hb', ho'⟩
theorem put_st (l K : List Int) (a : Option Addr) (ct N B G : Nat) (cs : Array Value) (w W : World) (h : KSt w G B cs K W) (hG : w.heap.size < G) (hB : G < B) (hKl : K.length + l.length ≤ 140737488355328) (hI : Ints N W a l)
    (hne : ∀ v, Boxed W B 22 v → OwnBy G W v K → ∀ b off, 0 < l.length → a = some ⟨b, off, none⟩ → b < W.heap.size ∧ b ≠ B ∧ ¬ some b = v.ownBlock) :
    Calls Tryz.prog 50 #[.slice a l.length ct, .pointer (some ⟨B, 0, none⟩)] W fun e w' => e = .returned (.tuple #[]) ∧ KSt w G B cs (K ++ l.map byteI) w' := by
  obtain ⟨v, hb, ho⟩ := h.own
  refine Calls.mono (put_any l K a ct B G N v W hKl hI hb ho h.g (hne v hb ho)) ?_
  rintro e w' ⟨rfl, v', hb', ho', ha, _⟩
  exact ⟨rfl, h.next hG hB ho hb' ho' ha⟩
theorem KSt.alloc {w W : World} {G B : Nat} {cs : Array Value} {K : List Int} (h : KSt w G B cs K W) (o : Obj) : KSt w G B cs K (W.alloc o) := by
  obtain ⟨v, hb, ho⟩ := h.own
  exact ⟨below_alloc h.b _, (hp_old _ _ _ (bx_lt h.pb)).trans h.pb, by rw [World.size_alloc]; exact Nat.le_succ_of_le h.g, v, hb.alloc o, World.ownsRow.alloc ho o⟩
theorem put_new (x y : Int) (K : List Int) (ct B G : Nat) (cs : Array Value) (w W : World) (h : KSt w G B cs K W) (hG : w.heap.size < G) (hB : G < B) (hKl : K.length + 2 ≤ 140737488355328) :
    Calls Tryz.prog 50 #[.slice (some ⟨W.heap.size, 0, none⟩) 2 ct, .pointer (some ⟨B, 0, none⟩)] (W.alloc (.cells #[.int .i64 x, .int .i64 y] 3)) fun e w' => e = .returned (.tuple #[]) ∧ KSt w G B cs (K ++ [byteI x, byteI y]) w' := by
  have hI : Ints (W.alloc (.cells #[.int .i64 x, .int .i64 y] 3)).heap.size (W.alloc (.cells #[.int .i64 x, .int .i64 y] 3)) (some ⟨W.heap.size, 0, none⟩) [x, y] := .inr ⟨W.heap.size, 0, rfl, by simp, fun j hj => by
    have : j = 0 ∨ j = 1 := by simp at hj; omega
    rcases this with rfl | rfl <;> exact cell_new_at _ _ _ _ _ _ rfl rfl⟩
  refine put_st [x, y] K _ ct _ B G cs w _ (h.alloc _) hG hB hKl hI (fun v hb ho b off _ e => ?_)
  obtain ⟨v', hb', ho'⟩ := h.own
  cases e
  have hbl := hb'.lt
  have e1 : v' = v := by
    have h1 := (hb'.alloc (.cells #[.int .i64 x, .int .i64 y] 3)).cell
    rw [hb.cell] at h1
    cases h1; rfl
  subst e1
  refine ⟨by simp, by omega, fun hk => ?_⟩
  have := (World.ownsRow.lt ho' _ hk.symm).2
  omega
theorem put_old (l K : List Int) (a : Option Addr) (ct N B G : Nat) (cs : Array Value) (w W : World) (h : KSt w G B cs K W) (hG : w.heap.size < G) (hB : G < B) (hKl : K.length + l.length ≤ 140737488355328) (hN : N ≤ w.heap.size) (hI : Ints N w a l) :
    Calls Tryz.prog 50 #[.slice a l.length ct, .pointer (some ⟨B, 0, none⟩)] W fun e w' => e = .returned (.tuple #[]) ∧ KSt w G B cs (K ++ l.map byteI) w' := by
  have hI2 := hI.up hN h.b
  refine put_st l K a ct N B G cs w W h hG hB hKl hI2 (fun v hb ho b off hl e => ?_)
  subst e
  have hlt := hI2.block hl
  refine ⟨Nat.lt_of_lt_of_le (Nat.lt_of_lt_of_le hlt hN) h.b.size, by omega, fun h => ?_⟩
  have := (World.ownsRow.lt ho b h.symm).1
  omega

set_option maxRecDepth 100000 in
set_option maxHeartbeats 4000000 in
theorem key_any (p : PosS) (b b0 b1 : Option Addr) (c c0 c1 N : Nat) (w : World) (hl : p.cells.length + p.h0.length + p.h1.length ≤ 140737488355320) (hN : N ≤ w.heap.size) (hP : PosIn N w b b0 b1 p) :
    Calls Tryz.prog 20 #[PosV b b0 b1 c c0 c1 p] w fun e w' => e = .returned (.string ⟨(keyS p).toArray⟩) ∧ Below w.heap.size w w' := by
  obtain ⟨i0, hi, hz0, hz1, hz2⟩ := info_parts info_u8
  obtain ⟨R, hR⟩ : ∃ R, (⟨(keyS p).toArray⟩ : ByteArray) = R := ⟨_, rfl⟩
  rw [hR]
  have HR := Lib.hid hR
  clear hR
  unfold PosV
  have w1 := IntWalk.i64_in ((p.cells.length : Int) + p.h0.length) (by omega)
  have w2 := IntWalk.i64_in ((p.cells.length : Int) + p.h0.length + p.h1.length) (by omega)
  have w3 := IntWalk.i64_in ((p.cells.length : Int) + p.h0.length + p.h1.length + 2) (by omega)
  go_enter Tryz.func20, Tryz.ntmps20
  go_upto_region 1 with (fail)
  have hb0 : Below w.heap.size w (w.alloc (.cells #[.slice b p.cells.length c, .slice b0 p.h0.length c0, .slice b1 p.h1.length c1, .int .i64 p.rights, .int .i64 p.side] 32)) := below_alloc (Below.refl _ _) _
  have hP0 : (w.alloc (.cells #[.slice b p.cells.length c, .slice b0 p.h0.length c0, .slice b1 p.h1.length c1, .int .i64 p.rights, .int .i64 p.side] 32)).heap[w.heap.size]? = some (.cells #[.slice b p.cells.length c, .slice b0 p.h0.length c0, .slice b1 p.h1.length c1, .int .i64 p.rights, .int .i64 p.side] 32 (0, 0)) := World.alloc_heap_new _ _
  generalize w.alloc (.cells #[.slice b p.cells.length c, .slice b0 p.h0.length c0, .slice b1 p.h1.length c1, .int .i64 p.rights, .int .i64 p.side] 32) = w4 at *
  have l0 : w.heap.size < w4.heap.size := bx_lt hP0
  have p0 := bx_cell hP0 0 rfl
  have p1 := bx_cell hP0 1 rfl
  have p2 := bx_cell hP0 2 rfl
  have p3 := bx_cell hP0 3 rfl
  have p4 := bx_cell hP0 4 rfl
  obtain ⟨n, hn⟩ : ∃ n, n = p.cells.length + p.h0.length + p.h1.length + 2 := ⟨_, rfl⟩
  have hn3 : n ≤ 140737488355328 := by omega
  have HN2 := Lib.hid hn
  have HP0 := Lib.hid hP0
  clear hn hP0
  go_upto_region 3 with (at_make; go_loud (refine wpList_make_own _ rfl _ _ 22 rfl w4.heap.size 5 i0 (.int .u8 0) 1 Tryz.underlying22 hi hz0 hz1 .i64 .i64 _ n rfl rfl (by rw [HN2.out]; simp) (by rw [hz2]; omega) (by unfold maxLen; omega) (Nat.le_refl _) ?_; intro w5 hown5 hgrow5))
  have hg45 : Alters (fun _ => False) w4 w5 := (Alters.of_grown hgrow5).mono (fun k _ hk => by cases hk)
  have hA5 : Below w4.heap.size w4 w5 := hg45.below (Nat.le_refl _) (fun _ h => h.elim)
  have hA6 : Below w5.heap.size w5 (w5.alloc (.cells #[.slice (some ⟨w4.heap.size, 0, none⟩) 0 n] 22)) := below_alloc (Below.refl _ _) _
  have hbx := boxed_new_at w5 22 w5.heap.size (.slice (some ⟨w4.heap.size, 0, none⟩) 0 n) rfl
  have hl45 : w4.heap.size < w5.heap.size := (World.ownsRow.lt hown5 w4.heap.size rfl).2
  have ho6 : OwnBy w4.heap.size (w5.alloc (.cells #[.slice (some ⟨w4.heap.size, 0, none⟩) 0 n] 22)) (.slice (some ⟨w4.heap.size, 0, none⟩) 0 n) [] := World.ownsRow.alloc hown5 _
  generalize hB : w5.heap.size = B at *
  generalize hG : w4.heap.size = G at *
  generalize w5.alloc (.cells #[.slice (some ⟨G, 0, none⟩) 0 n] 22) = w6 at *
  have hP6 := (hA6.block _ (by rw [← hB]; omega)).trans ((hg45.block _ (by rw [hG]; omega) (fun h => h)).trans HP0.out)
  have hst : KSt w G B #[.slice b p.cells.length c, .slice b0 p.h0.length c0, .slice b1 p.h1.length c1, .int .i64 p.rights, .int .i64 p.side] [] w6 := ⟨hb0.trans ((hA5.mono (Nat.le_of_lt l0)).trans (hA6.mono (Nat.le_of_lt (Nat.lt_trans l0 hl45)))), hP6, by have := hbx.lt; omega, _, hbx, ho6⟩
  have HP := Lib.hid hP
  clear hgrow5 hg45 hB hG hown5 hA5 ho6 hA6 hbx hP6 hb0 p0 p1 p2 p3 p4 HP0 w1 w2 w3 hi hz0 hz1 hz2 HN2 hn3 hP
  have hl0 : w.heap.size < G := l0
  clear l0
  have p0 := bx_cell hst.pb 0 rfl
  have q0 := bx_lt hst.pb
  have HST := Lib.hid hst
  clear hst
  go_wp2_with fail
  refine (put_old p.cells [] b c N B G _ w w6 HST.out hl0 hl45 (by simp; omega) hN HP.out.cells).mono ?_
  rintro e w7 ⟨rfl, hst⟩
  clear p0 q0 HST
  have p1 := bx_cell hst.pb 1 rfl
  have p2 := bx_cell hst.pb 2 rfl
  have q1 := bx_lt hst.pb
  have HST := Lib.hid hst
  clear hst
  go_wp2_with fail
  refine (put_old p.h0 _ b0 c0 N B G _ w w7 HST.out hl0 hl45 (by simp; omega) hN HP.out.h0).mono ?_
  rintro e w8 ⟨rfl, hst⟩
  clear p1 p2 q1 HST
  have p1 := bx_cell hst.pb 1 rfl
  have p2 := bx_cell hst.pb 2 rfl
  have q1 := bx_lt hst.pb
  have HST := Lib.hid hst
  clear hst
  go_wp2_with fail
  refine (put_old p.h1 _ b1 c1 N B G _ w w8 HST.out hl0 hl45 (by simp; omega) hN HP.out.h1).mono ?_
  rintro e w9 ⟨rfl, hst⟩
  clear p1 p2 q1 HST
  have p3 := bx_cell hst.pb 3 rfl
  have p4 := bx_cell hst.pb 4 rfl
  have q1 := bx_lt hst.pb
  have HST := Lib.hid hst
  clear hst
  go_wp2_with fail
  refine (put_new p.rights p.side _ _ B G _ w w9 HST.out hl0 hl45 (by simp; omega)).mono ?_
  rintro e w10 ⟨rfl, hst⟩
  have hKey : ([] ++ p.cells.map byteI ++ p.h0.map byteI ++ p.h1.map byteI ++ [byteI p.rights, byteI p.side]) = keyI p := by unfold keyI; simp
  rw [hKey] at hst
  obtain ⟨v, hbx, ho⟩ := hst.own
  have hbE := Lib.hid hst.b
  have hlen : (keyI p).length ≤ 140737488355328 := by unfold keyI; simp; omega
  have hpos : 0 < (keyI p).length := by unfold keyI; simp; omega
  have hcv : ∃ g cap, v = .slice (some ⟨g, 0, none⟩) (keyI p).length cap ∧ (convert 22 9 (.slice (some ⟨g, 0, none⟩) (keyI p).length cap)).run Tryz.prog w10 = .ok (.string R) w10 := by
    rcases ho.2 with ⟨_, h0⟩ | ⟨g, cap, cur, hv, _⟩
    · omega
    · refine ⟨g, cap, hv, ?_⟩
      subst hv
      rw [run_convert_bytes_arg (P := Tryz.prog) w10 22 5 Tryz.underlying22 Tryz.underlying5 g 0 _ cap (keyI p) rfl (fun i hi => by
        rw [Nat.zero_add, World.ownsRow.cellAt ho i (by omega)]
        simp [List.getD, hi]) 9 Tryz.underlying9, ← HR.out]
      rfl
  obtain ⟨g, cap, rfl, hcv⟩ := hcv
  have hx := hbx.cell
  have hlB := hbx.lt
  generalize (keyI p).length = m at *
  clear p3 p4 q1 HST hst hKey ho hbx hlen hpos HP
  go_wp2
  go_ret
  exact ⟨rfl, hbE.out⟩
end Go.Proofs.YtphhkfelpckilaaGreatDoor
