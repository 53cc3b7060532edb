/-
  The number of a sign; clones of lists of numbers.
  The numbers of a text of signs.
-/
import Derived.Test.YtphhkfelpckilaaGreatDoorDSign
import Derived.Test.YtphhkfelpckilaaGreatDoorPush
import Derived.Test.YtphhkfelpckilaaGreatDoorShelf
import Derived.Laws.RangeString
import Derived.OwnWalk
namespace Go.Proofs.YtphhkfelpckilaaGreatDoor
open Go Go.RowKit

theorem number_any (s : List UInt8) (r : Int) (w : World) (h0 : 0 ≤ r) (h1 : r < 128) :
    Calls Tryz.prog 80 #[.string ⟨s.toArray⟩, .int .i32 r] w fun e w' => e = .returned (.int .i64 (Lib.indexByte s r.toNat.toUInt8)) ∧ w' = w := by
  have HI := Lib.hid (Tryz.strings_IndexRune_ascii ⟨s.toArray⟩ r w h0 h1)
  clear h0 h1
  go_enter Tryz.func80, Tryz.ntmps80
  go_wp2_with (go_at_call 99; refine HI.out.mono ?_; rintro e w' ⟨rfl, rfl⟩)
  go_ret
  exact ⟨rfl, rfl⟩
theorem info_int1 : (Tryz.prog.info? 3).map (fun i => (i.zero, i.size, i.bytes)) = some (some (.int .i64 0), 1, 8) := by kernel_rfl
/-- slices.Clone of numbers. -/
theorem clone_any (a : Option Addr) (cap N : Nat) (l : List Int) (w : World) (h1 : 1 ≤ l.length) (hl : l.length ≤ 1000) (hI : Ints N w a l) :
    Calls Tryz.prog 70 #[.slice a l.length cap] w fun e w' => ∃ g c', e = .returned (.slice (some ⟨g, 0, none⟩) l.length c') ∧ OwnInts w.heap.size w' (.slice (some ⟨g, 0, none⟩) l.length c') l ∧ Below w.heap.size w w' := by
  obtain ⟨i0, hi, hz0, hz1, hz2⟩ := info_parts info_int1
  have hlen := h1
  have key : ∀ b off, (∀ j, j < l.length → w.cell? ⟨b, off + j, none⟩ = some (.int .i64 (l[j]?.getD 0))) → Calls Tryz.prog 70 #[.slice (some ⟨b, off, none⟩) l.length cap] w fun e w' => ∃ g c', e = .returned (.slice (some ⟨g, 0, none⟩) l.length c') ∧ OwnInts w.heap.size w' (.slice (some ⟨g, 0, none⟩) l.length c') l ∧ Below w.heap.size w w' := by
    intro b off hc
    refine (Tryz.slices_Clone i0 (.int .i64 0) 1 8 hi hz0 hz1 hz2 rfl (by decide) (fun w => by simp [Go.sizeOf, typeInfo, hi, hz1]) b off l.length cap (l.map (Value.int .i64)) w (by simp) (by unfold maxLen; omega) (by omega) (fun j u hu => ?_) (by simp [Value.oneCell'])).mono ?_
    · have hj : j < l.length := by have := (List.getElem?_eq_some_iff.1 hu).1; simpa using this
      rw [hc j hj, ← hu]; simp [hj]
    · rintro e w' ⟨v, rfl, h1, _, h2⟩
      rcases OwnInts.form (l := l) h1 with ⟨_, h⟩ | ⟨g, c', rfl, _⟩
      · subst h; simp at hlen
      · exact ⟨g, c', rfl, h1, h2⟩
  rcases hI with rfl | ⟨b, off, rfl, _, hc⟩
  · simp at h1
  · exact key b off hc
end Go.Proofs.YtphhkfelpckilaaGreatDoor

namespace Go.Proofs.YtphhkfelpckilaaGreatDoor
open Go Go.RowKit

def numS (s : List UInt8) (x : UInt8) : Int := Lib.indexByte s x
theorem number_at (s : List UInt8) (x : UInt8) (w : World) (h : x.toNat < 128) :
    Calls Tryz.prog 80 #[.string ⟨s.toArray⟩, .int .i32 x.toNat] w fun e w' => e = .returned (.int .i64 (numS s x)) ∧ w' = w := by
  have := number_any s (x.toNat : Int) w (by omega) (by omega)
  have e : ((x.toNat : Int)).toNat.toUInt8 = x := by simp
  rw [e] at this
  exact this

def setIter (W : World) (b : Nat) (s : ByteArray) (pos : Nat) : World := { W with heap := W.heap.setIfInBounds b (.stringIter s pos) }
theorem setIter_block (W : World) (b : Nat) (s : ByteArray) (pos : Nat) (h : b < W.heap.size) : (setIter W b s pos).heap[b]? = some (.stringIter s pos) := by
  simp [setIter, h]
theorem setIter_alters (W : World) (b : Nat) (s : ByteArray) (pos : Nat) : Alters (fun k => k = b) W (setIter W b s pos) :=
  ⟨rfl, rfl, rfl, by simp [setIter], fun k _ hk => by
    have hk : ¬ k = b := hk
    simp [setIter, Ne.symm hk]⟩
theorem next_here (W : World) (t : List UInt8) (b pos : Nat) (ty : TypeId) (hb : W.heap[b]? = some (.stringIter ⟨t.toArray⟩ pos)) (h : pos < t.length) (ha : (t[pos]?.getD 0).toNat < 128) :
    (Instr.next (.pointer (some ⟨b, 0, none⟩)) true ty).run Tryz.prog W = .ok (.tuple #[.bool true, .int .i64 pos, .int .i32 (t[pos]?.getD 0).toNat]) (setIter W b ⟨t.toArray⟩ (pos + 1)) := by
  have hs : pos < (⟨t.toArray⟩ : ByteArray).size := by simpa [ByteArray.size] using h
  have hg : (⟨t.toArray⟩ : ByteArray)[pos]'hs = t[pos]?.getD 0 := by
    rw [List.getElem?_eq_getElem h]; rfl
  rw [← hg] at ha ⊢
  simp only [Instr.next, getObj, setObj, Sem.run_bind, Sem.run, hb, Result.andThen, hs, if_true, decode_ascii _ pos hs ha]
  simp [goInt, setIter]
theorem next_done (W : World) (t : List UInt8) (b pos : Nat) (ty : TypeId) (hb : W.heap[b]? = some (.stringIter ⟨t.toArray⟩ pos)) (h : ¬ pos < t.length) :
    (Instr.next (.pointer (some ⟨b, 0, none⟩)) true ty).run Tryz.prog W = .ok (.tuple #[.bool false]) W := by
  have hs : ¬ pos < (⟨t.toArray⟩ : ByteArray).size := by simpa [ByteArray.size] using h
  simp [Instr.next, getObj, Sem.run, hb, hs]

def lenOf : Value → Nat
  | .slice _ n _ => n
  | _ => 0
theorem bl_of {W : World} {b : Nat} {o : Obj} (h : W.heap[b]? = some o) : b < W.heap.size := (Array.getElem?_eq_some_iff.1 h).1

set_option maxRecDepth 100000 in
set_option maxHeartbeats 2000000 in
theorem numbers_any (s t : List UInt8) (w : World) (ht : ∀ x ∈ t, x.toNat < 128) (hl : t.length ≤ 1000) :
    Calls Tryz.prog 79 #[.string ⟨t.toArray⟩, .func (.func 80) #[.string ⟨s.toArray⟩] #[]] w fun e w' => ∃ v, e = .returned v ∧ OwnInts w.heap.size w' v (t.map (numS s)) ∧ Below w.heap.size w w' := by
  have HT := Lib.hid ht
  clear ht
  obtain ⟨h, eh⟩ : ∃ h, h = w.heap.size := ⟨_, rfl⟩
  have EH := Lib.hid eh
  go_enter Tryz.func79, Tryz.ntmps79
  go_wp2
  have hb0 : Below w.heap.size w (w.iter ⟨t.toArray⟩ 0) := below_alloc (Below.refl _ _) _
  have hi0 := World.iter_heap w ⟨t.toArray⟩ 0
  generalize w.iter ⟨t.toArray⟩ 0 = w1 at *
  rw [← eh] at hi0
  simp only [← eh] at hb0 ⊢
  clear eh
  have hs1 : h + 1 ≤ w1.heap.size := bl_of hi0
  go_loopw [5] (fun v wr => ∃ q : Nat, q ≤ t.length ∧ wr.heap[h]? = some (.stringIter ⟨t.toArray⟩ q) ∧ Below h w wr ∧ (∃ a c, v = .slice a q c) ∧ OwnInts (h + 1) wr v ((t.take q).map (numS s))) (fun v _ => t.length - lenOf v)
  case atStart => exact ⟨0, Nat.zero_le _, hi0, hb0, ⟨none, 0, rfl⟩, ⟨rfl, .inl ⟨rfl, rfl⟩⟩⟩
  case round =>
    clear hi0 hb0 hs1
    obtain ⟨q, hq, hi, hb, ⟨a, c, rfl⟩, ho⟩ := hrel
    by_cases hlt : q < t.length
    · have hx : (t[q]?.getD 0).toNat < 128 := HT.out _ (by simp [hlt])
      have HN := next_here wr t h q 0 hi hlt hx
      have hsn : (t.take (q + 1)).map (numS s) = (t.take q).map (numS s) ++ [numS s (t[q]?.getD 0)] := by
        have e : t.take (q + 1) = t.take q ++ [t[q]?.getD 0] := by rw [List.take_add_one]; simp [hlt]
        rw [e, List.map_append]; rfl
      have hln : ((t.take q).map (numS s)).length = q := by simp; omega
      generalize t[q]?.getD 0 = x at *
      generalize (t.take q).map (numS s) = L at *
      have hl0 := bl_of hi
      have hA := setIter_alters wr h ⟨t.toArray⟩ (q + 1)
      have hi2 := setIter_block wr h ⟨t.toArray⟩ (q + 1) hl0
      generalize setIter wr h ⟨t.toArray⟩ (q + 1) = w2 at *
      have ho2 := ho.alters hA (fun k hk hv => by have hk : k = h := hk; have := (World.ownsRow.lt ho k hv.symm).1; omega)
      have hb2 := hb.trans (hA.below (Nat.le_of_lt hl0) (fun k hk => Nat.le_of_eq (Eq.symm hk)))
      have hl2 := bl_of hi2
      have hAB : Below w2.heap.size w2 (w2.alloc (.cells #[.int .i64 (numS s x)] 3)) := (Below.refl _ _).alloc (Nat.le_refl _) _
      have HAB := Lib.hid hAB
      have HNA := Lib.hid (ho2.alters (S := fun _ => False) (Alters.of_below hAB) (fun _ h => h.elim))
      have HO2 := Lib.hid ho2
      have HB2 := Lib.hid hb2
      have HI2 := Lib.hid ((hAB.block h hl2).trans hi2)
      have HSN := Lib.hid hsn
      have HLN := Lib.hid hln
      have HC := Lib.hid (number_at s x w2 hx)
      clear hi hb ho hx hsn hln hA ho2 hb2 hi2 hAB
      go_loud (go_wp2_with (first | (go_at_call 80; refine HC.out.mono ?_; rintro e w3 ⟨rfl, rfl⟩) | (at_builtin; refine wpList_push rfl (.tmp 13) (.tmp 17) rfl (h + 1) _ L rfl HNA.out (by have := HLN.out; omega) (by simp; omega) _ (numS s x) rfl (cell_new_at _ _ _ _ _ _ rfl rfl) ?_; intro g8 cap8 w8 hown8 hg8 hat8)))
      have hb8 := push_below HB2.out HAB.out (Nat.le_of_lt hl2) (OwnInts.mono HO2.out (Nat.le_succ h)) hg8
      have hi8 := (hg8.block h (bl_of HI2.out) (fun e => by have := (World.ownsRow.lt HO2.out h e.symm).1; omega)).trans HI2.out
      clear hat8
      go_roundw
      case rel => exact ⟨q + 1, by omega, hi8, hb8, ⟨_, _, by rw [HLN.out]⟩, by rw [HSN.out]; exact hown8⟩
      case measure => have := HLN.out; simp [lenOf]; omega
    · obtain rfl : q = t.length := by omega
      have HN := next_done wr t h t.length 0 hi hlt
      rw [List.take_length] at ho
      have HO := Lib.hid ho
      have HB := Lib.hid hb
      clear ho hb hi hlt
      go_wp2
      go_ret
      have hO := HO.out
      have eh := EH.out
      rw [← eh]
      exact ⟨_, rfl, OwnInts.mono hO (by omega), HB.out⟩
end Go.Proofs.YtphhkfelpckilaaGreatDoor
