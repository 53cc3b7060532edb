/-
  The positions of the laws' fixed examples: what is true of them.
-/
import Derived.Test.YtphhkfelpckilaaGreatDoorDParse
import Derived.Test.YtphhkfelpckilaaGreatDoorDKeyT
import Derived.Test.YtphhkfelpckilaaGreatDoorDRefL
import Derived.Test.YtphhkfelpckilaaGreatDoorDCount
namespace Go.Proofs.YtphhkfelpckilaaGreatDoor
open Go Go.RowKit Go.Lib

def psP : PosS := ⟨[1, 0], [0], [0], 2, 1⟩
def psQ : PosS := ⟨[2, 1], [0], [0], 3, 0⟩
def psR : PosS := ⟨[1, 0], [1], [0], 2, 1⟩
def tx1 : List UInt8 := [65, 46, 47, 48, 47, 48, 47, 48, 50, 47, 49]
def tx2 : List UInt8 := [65, 46, 47, 49, 47, 48, 47, 50, 47, 49]
def tx3 : List UInt8 := [97, 65, 47, 48, 47, 48, 47, 51, 47, 48]
def txP : List UInt8 := [65, 46, 47, 48, 47, 48, 47, 50, 47, 49]
theorem tx1_n : Lib.countB ⟨tx1.toArray⟩ ⟨#[47]⟩ = 4 := by decide +kernel
theorem tx2_n : Lib.countB ⟨tx2.toArray⟩ ⟨#[47]⟩ = 4 := by decide +kernel
theorem tx3_n : Lib.countB ⟨tx3.toArray⟩ ⟨#[47]⟩ = 4 := by decide +kernel
theorem tx1_s : Lib.splitB ⟨#[47]⟩ 0 4 ⟨tx1.toArray⟩ = [⟨[65, 46].toArray⟩, ⟨[48].toArray⟩, ⟨[48].toArray⟩, ⟨[48, 50].toArray⟩, ⟨[49].toArray⟩] := by decide +kernel
theorem tx2_s : Lib.splitB ⟨#[47]⟩ 0 4 ⟨tx2.toArray⟩ = [⟨[65, 46].toArray⟩, ⟨[49].toArray⟩, ⟨[48].toArray⟩, ⟨[50].toArray⟩, ⟨[49].toArray⟩] := by decide +kernel
theorem tx3_s : Lib.splitB ⟨#[47]⟩ 0 4 ⟨tx3.toArray⟩ = [⟨[97, 65].toArray⟩, ⟨[48].toArray⟩, ⟨[48].toArray⟩, ⟨[51].toArray⟩, ⟨[48].toArray⟩] := by decide +kernel
theorem n_c1 : [65, 46].map (numS contS) = [1, 0] := by decide +kernel
theorem n_c3 : [97, 65].map (numS contS) = [2, 1] := by decide +kernel
theorem n_d0 : [48].map (numS digS) = [0] := by decide +kernel
theorem n_d1 : [49].map (numS digS) = [1] := by decide +kernel
theorem a_02 : atoiS [48, 50] = 2 := by decide +kernel
theorem a_0 : atoiS [48] = 0 := by decide +kernel
theorem a_1 : atoiS [49] = 1 := by decide +kernel
theorem a_2 : atoiS [50] = 2 := by decide +kernel
theorem a_3 : atoiS [51] = 3 := by decide +kernel
theorem psP_text : textP psP = txP := by decide +kernel
theorem psQ_text : textP psQ = tx3 := by decide +kernel
theorem psP_ok : parseOk 2 2 [false] psP tx1 = false := by decide +kernel
theorem psR_ok : parseOk 2 2 [false] psR tx2 = false := by decide +kernel
theorem psQ_ok : parseOk 2 2 [false] psQ tx3 = true := by decide +kernel
theorem psP_v : posB 2 2 [false] psP = true := by decide +kernel
theorem ps0_v : posB 2 2 [false] posZero = false := by decide +kernel
theorem psP_key : keyS psP = [1, 0, 0, 0, 2, 1] := by decide +kernel
theorem ps_sort : sortS [psQ, psP, psQ] = [psP, psQ] := by decide +kernel
theorem ps_cmp : cmpP psP psQ = -1 := by decide +kernel
theorem ps_srt : Srt [psP, psQ] := by
  unfold Srt
  rw [List.pairwise_cons]
  exact ⟨fun b hb => by obtain rfl : b = psQ := by simpa using hb
                        exact ps_cmp, by simp⟩
theorem ps_find : findS [psP, psQ] psQ = 1 := findS_at ps_srt (i := 1) (by decide) rfl
theorem ps_none : findS [psP] psQ = -1 := findS_none (by decide +kernel)
theorem psQ_count : countTo 1 1 psQ.cells = [1] := by decide +kernel
theorem psP_num : PosNum psP := ⟨by decide, by decide, by decide, by decide, by decide⟩
theorem psQ_num : PosNum psQ := ⟨by decide, by decide, by decide, by decide, by decide⟩
theorem psR_num : PosNum psR := ⟨by decide, by decide, by decide, by decide, by decide⟩
end Go.Proofs.YtphhkfelpckilaaGreatDoor
