/-
  The positions of the laws' fixed examples: what is true of them.
  The fixed texts of the laws' examples, read.
-/
import Derived.Test.YtphhkfelpckilaaGreatDoorDParse
import Derived.Test.YtphhkfelpckilaaGreatDoorDKeyT
import Derived.Test.YtphhkfelpckilaaGreatDoorDRefL
import Derived.Test.YtphhkfelpckilaaGreatDoorDCount
namespace Go.Proofs.YtphhkfelpckilaaGreatDoor
open Go Go.RowKit Go.Lib

def psP : PosS := ⟨[1, 0], [0], [0], 2, 1⟩
def psQ : PosS := ⟨[2, 1], [0], [0], 3, 0⟩
def psR : PosS := ⟨[1, 0], [1], [0], 2, 1⟩
def tx1 : List UInt8 := [65, 46, 47, 48, 47, 48, 47, 48, 50, 47, 49]
def tx2 : List UInt8 := [65, 46, 47, 49, 47, 48, 47, 50, 47, 49]
def tx3 : List UInt8 := [97, 65, 47, 48, 47, 48, 47, 51, 47, 48]
def txP : List UInt8 := [65, 46, 47, 48, 47, 48, 47, 50, 47, 49]
theorem tx1_n : Lib.countB ⟨tx1.toArray⟩ ⟨#[47]⟩ = 4 := by decide +kernel
theorem tx2_n : Lib.countB ⟨tx2.toArray⟩ ⟨#[47]⟩ = 4 := by decide +kernel
theorem tx3_n : Lib.countB ⟨tx3.toArray⟩ ⟨#[47]⟩ = 4 := by decide +kernel
theorem tx1_s : Lib.splitB ⟨#[47]⟩ 0 4 ⟨tx1.toArray⟩ = [⟨[65, 46].toArray⟩, ⟨[48].toArray⟩, ⟨[48].toArray⟩, ⟨[48, 50].toArray⟩, ⟨[49].toArray⟩] := by decide +kernel
theorem tx2_s : Lib.splitB ⟨#[47]⟩ 0 4 ⟨tx2.toArray⟩ = [⟨[65, 46].toArray⟩, ⟨[49].toArray⟩, ⟨[48].toArray⟩, ⟨[50].toArray⟩, ⟨[49].toArray⟩] := by decide +kernel
theorem tx3_s : Lib.splitB ⟨#[47]⟩ 0 4 ⟨tx3.toArray⟩ = [⟨[97, 65].toArray⟩, ⟨[48].toArray⟩, ⟨[48].toArray⟩, ⟨[51].toArray⟩, ⟨[48].toArray⟩] := by decide +kernel
theorem n_c1 : [65, 46].map (numS contS) = [1, 0] := by decide +kernel
theorem n_c3 : [97, 65].map (numS contS) = [2, 1] := by decide +kernel
theorem n_d0 : [48].map (numS digS) = [0] := by decide +kernel
theorem n_d1 : [49].map (numS digS) = [1] := by decide +kernel
theorem a_02 : atoiS [48, 50] = 2 := by decide +kernel
theorem a_0 : atoiS [48] = 0 := by decide +kernel
theorem a_1 : atoiS [49] = 1 := by decide +kernel
theorem a_2 : atoiS [50] = 2 := by decide +kernel
theorem a_3 : atoiS [51] = 3 := by decide +kernel
theorem psP_text : textP psP = txP := by decide +kernel
theorem psQ_text : textP psQ = tx3 := by decide +kernel
theorem psP_ok : parseOk 2 2 [false] psP tx1 = false := by decide +kernel
theorem psR_ok : parseOk 2 2 [false] psR tx2 = false := by decide +kernel
theorem psQ_ok : parseOk 2 2 [false] psQ tx3 = true := by decide +kernel
theorem psP_v : posB 2 2 [false] psP = true := by decide +kernel
theorem ps0_v : posB 2 2 [false] posZero = false := by decide +kernel
theorem psP_key : keyS psP = [1, 0, 0, 0, 2, 1] := by decide +kernel
theorem ps_sort : sortS [psQ, psP, psQ] = [psP, psQ] := by decide +kernel
theorem ps_cmp : cmpP psP psQ = -1 := by decide +kernel
theorem ps_srt : Srt [psP, psQ] := by
  unfold Srt
  rw [List.pairwise_cons]
  exact ⟨fun b hb => by obtain rfl : b = psQ := by simpa using hb
                        exact ps_cmp, by simp⟩
theorem ps_find : findS [psP, psQ] psQ = 1 := findS_at ps_srt (i := 1) (by decide) rfl
theorem ps_none : findS [psP] psQ = -1 := findS_none (by decide +kernel)
theorem psQ_count : countTo 1 1 psQ.cells = [1] := by decide +kernel
theorem psP_num : PosNum psP := ⟨by decide, by decide, by decide, by decide, by decide⟩
theorem psQ_num : PosNum psQ := ⟨by decide, by decide, by decide, by decide, by decide⟩
theorem psR_num : PosNum psR := ⟨by decide, by decide, by decide, by decide, by decide⟩
end Go.Proofs.YtphhkfelpckilaaGreatDoor

namespace Go.Proofs.YtphhkfelpckilaaGreatDoor
open Go Go.RowKit Go.Lib

theorem nums_at (s t : List UInt8) (l : List Int) (h : t.map (numS s) = l) (ht : ∀ x ∈ t, x.toNat < 128) (hl : t.length ≤ 1000) (w : World) :
    Calls Tryz.prog 79 #[.string ⟨t.toArray⟩, .func (.func 80) #[.string ⟨s.toArray⟩] #[]] w fun e w' => ∃ v, e = .returned v ∧ OwnInts w.heap.size w' v l ∧ Below w.heap.size w w' := by
  have := numbers_any s t w ht hl
  rwa [h] at this
theorem read_at (s t0 t1 t2 t3 t4 : List UInt8) (p : PosS) (w : World) (hE : EnvIn w) (hs : s.length ≤ 83) (hcn : Lib.countB ⟨s.toArray⟩ ⟨#[47]⟩ = 4)
    (hsp : Lib.splitB ⟨#[47]⟩ 0 4 ⟨s.toArray⟩ = [⟨t0.toArray⟩, ⟨t1.toArray⟩, ⟨t2.toArray⟩, ⟨t3.toArray⟩, ⟨t4.toArray⟩]) (ht3 : t3.length ≤ 100) (ht4 : t4.length ≤ 100)
    (n0 : t0.map (numS contS) = p.cells) (n1 : t1.map (numS digS) = p.h0) (n2 : t2.map (numS digS) = p.h1) (n3 : atoiS t3 = p.rights) (n4 : atoiS t4 = p.side)
    (a0 : (∀ x ∈ t0, x.toNat < 128) ∧ t0.length ≤ 1000) (a1 : (∀ x ∈ t1, x.toNat < 128) ∧ t1.length ≤ 1000) (a2 : (∀ x ∈ t2, x.toNat < 128) ∧ t2.length ≤ 1000) :
    Calls Tryz.prog 62 #[.string ⟨s.toArray⟩] w fun e w' => ∃ a a0 a1 c c0 c1, e = .returned (PosV a a0 a1 c c0 c1 p) ∧ PosOwn w.heap.size w' a a0 a1 c c0 c1 p ∧ Below w.heap.size w w' := by
  have h := read_by s t0 t1 t2 t3 t4 p.cells p.h0 p.h1 w hE hs hcn hsp ht3 ht4 (fun W _ => nums_at contS t0 _ n0 a0.1 a0.2 W) (fun W _ => nums_at digS t1 _ n1 a1.1 a1.2 W) (fun W _ => nums_at digS t2 _ n2 a2.1 a2.2 W)
  rw [n3, n4] at h
  exact h
theorem parse1_any (vn vt vm vc vb ve : Value) (ak : Option Addr) (ck N : Nat) (w : World) (hN : N ≤ w.heap.size) (hK : Keeps N w ak [false]) (hE : EnvIn w) :
    Calls Tryz.prog 34 #[.agg #[.int .i64 2, vn, vt, .slice ak 1 ck, .int .i64 2, vm, vc, vb, ve], .string ⟨#[65, 46, 47, 48, 47, 48, 47, 48, 50, 47, 49]⟩] w (Parsed w posZero 3) := by
  have h := parse_by 2 2 [false] vn vt vm vc vb ve ak ck N tx1 psP w (by decide) (by decide) hN hK hE psP_num (fun W hb => read_at tx1 [65, 46] [48] [48] [48, 50] [49] psP W (hE.up hb) (by decide) tx1_n tx1_s (by decide) (by decide) n_c1 n_d0 n_d0 a_02 a_1 (by decide) (by decide) (by decide))
  unfold parsedP parsedE at h
  rw [psP_ok] at h
  exact h
theorem parse2_any (vn vt vm vc vb ve : Value) (ak : Option Addr) (ck N : Nat) (w : World) (hN : N ≤ w.heap.size) (hK : Keeps N w ak [false]) (hE : EnvIn w) :
    Calls Tryz.prog 34 #[.agg #[.int .i64 2, vn, vt, .slice ak 1 ck, .int .i64 2, vm, vc, vb, ve], .string ⟨#[65, 46, 47, 49, 47, 48, 47, 50, 47, 49]⟩] w (Parsed w posZero 3) := by
  have h := parse_by 2 2 [false] vn vt vm vc vb ve ak ck N tx2 psR w (by decide) (by decide) hN hK hE psR_num (fun W hb => read_at tx2 [65, 46] [49] [48] [50] [49] psR W (hE.up hb) (by decide) tx2_n tx2_s (by decide) (by decide) n_c1 n_d1 n_d0 a_2 a_1 (by decide) (by decide) (by decide))
  unfold parsedP parsedE at h
  rw [psR_ok] at h
  exact h
theorem parse3_any (vn vt vm vc vb ve : Value) (ak : Option Addr) (ck N : Nat) (w : World) (hN : N ≤ w.heap.size) (hK : Keeps N w ak [false]) (hE : EnvIn w) :
    Calls Tryz.prog 34 #[.agg #[.int .i64 2, vn, vt, .slice ak 1 ck, .int .i64 2, vm, vc, vb, ve], .string ⟨#[97, 65, 47, 48, 47, 48, 47, 51, 47, 48]⟩] w (Parsed w psQ 0) := by
  have h := parse_by 2 2 [false] vn vt vm vc vb ve ak ck N tx3 psQ w (by decide) (by decide) hN hK hE psQ_num (fun W hb => read_at tx3 [97, 65] [48] [48] [51] [48] psQ W (hE.up hb) (by decide) tx3_n tx3_s (by decide) (by decide) n_c3 n_d0 n_d0 a_3 a_0 (by decide) (by decide) (by decide))
  unfold parsedP parsedE at h
  rw [psQ_ok] at h
  exact h
end Go.Proofs.YtphhkfelpckilaaGreatDoor
