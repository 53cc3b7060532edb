/-
  strings.IndexRune at what is no ASCII rune, in a text of ASCII: -1.
  The numbers of a text of whatever bytes.
  read and Parse of the package pos at whatever text.
  What is written of a position that a game made is read as that position.
-/
import Derived.Test.YtphhkfelpckilaaGreatDoorDNums
import Derived.Laws.RangeAny
import Derived.Laws.Runes
import Derived.WalkMore
import Derived.Test.YtphhkfelpckilaaGreatDoorQTail
import Derived.Deep.QuietTactic
import Derived.Test.YtphhkfelpckilaaGreatDoorDParse
import Derived.Lib.IndexMore
import Derived.Lib.SplitLaws
import Derived.Test.YtphhkfelpckilaaGreatDoorPRPr
namespace Go.Proofs.YtphhkfelpckilaaGreatDoor
open Go Go.RowKit

theorem ibyte_high (l : List UInt8) (c : UInt8) (hs : ∀ x ∈ l, x.toNat < 128) (hc : 128 ≤ c.toNat) : Lib.indexByte l c = -1 := by
  induction l with
  | nil => rfl
  | cons b l ih =>
    unfold Lib.indexByte
    have hb := hs b (by simp)
    have hne : ¬ b = c := fun e => by subst e; omega
    have ih' := ih (fun x hx => hs x (by simp [hx]))
    simp [hne, ih']

set_option maxRecDepth 100000 in
set_option maxHeartbeats 2000000 in
theorem idxr_any (s : List UInt8) (r : Int) (w : World) (hs : ∀ x ∈ s, x.toNat < 128) (hl : 4 ≤ s.length) (hl2 : s.length ≤ 100) (h0 : 128 ≤ r) (h1 : r ≤ 2147483647) :
    Calls Tryz.prog 99 #[.string ⟨s.toArray⟩, .int .i32 r] w fun e w' => e = .returned (.int .i64 (-1)) ∧ Below w.heap.size w w' := by
  have t1 : decide (0 ≤ r) = true := by rw [decide_eq_true_eq]; omega
  have t2 : decide (r < 128) = false := by rw [decide_eq_false_iff_not]; omega
  have HS := Lib.hid hs
  clear hs
  by_cases hr : r = 65533
  · subst hr
    have t3 : ((65533 : Int) == 65533) = true := rfl
    have hsz : (w.iter ⟨s.toArray⟩ 0).heap[w.heap.size]? = some (.stringIter ⟨s.toArray⟩ 0) := World.iter_heap _ _ _
    have hb0 : Below w.heap.size w (w.iter ⟨s.toArray⟩ 0) := below_alloc (Below.refl _ _) _
    go_enter Tryz.func99, Tryz.ntmps99
    go_wp2_with fail
    generalize w.iter ⟨s.toArray⟩ 0 = w1 at *
    obtain ⟨h, eh⟩ : ∃ h, h = w.heap.size := ⟨_, rfl⟩
    rw [← eh] at hsz hb0
    simp only [← eh]
    have EH := Lib.hid eh
    clear eh
    go_loopw [] (fun wr => ∃ q : Nat, q ≤ s.length ∧ wr.heap[h]? = some (.stringIter ⟨s.toArray⟩ q) ∧ Below h w wr) (fun wr => s.length - wr.iterPos h)
    case atStart => exact ⟨0, Nat.zero_le _, hsz, hb0⟩
    case round =>
      clear hsz hb0
      obtain ⟨q, hq, hi, hb⟩ := hrel
      by_cases hlt : q < s.length
      · have hx : (s[q]?.getD 0).toNat < 128 := HS.out _ (by simp [hlt])
        have HN := next_here wr s h q 0 hi hlt hx
        have hne : ((s[q]?.getD 0).toNat == 65533) = false := by rw [beq_eq_false_iff_ne]; omega
        have hA := setIter_alters wr h ⟨s.toArray⟩ (q + 1)
        have hi2 := setIter_block wr h ⟨s.toArray⟩ (q + 1) (bl_of hi)
        have hp1 : wr.iterPos h = q := by simp [World.iterPos, hi]
        have hb2 := hb.trans (hA.below (Nat.le_of_lt (bl_of hi)) (fun k hk => Nat.le_of_eq (Eq.symm hk)))
        generalize (s[q]?.getD 0).toNat = x at *
        generalize setIter wr h ⟨s.toArray⟩ (q + 1) = w2 at *
        have hp2 : w2.iterPos h = q + 1 := by simp [World.iterPos, hi2]
        have HR := Lib.hid (And.intro hi2 hb2)
        have HP := Lib.hid (And.intro hp1 hp2)
        clear hi hb hA hi2 hb2 hx hp1 hp2
        go_wp2
        go_roundw
        case rel => exact ⟨q + 1, by omega, HR.out.1, HR.out.2⟩
        case measure => rw [HP.out.1, HP.out.2]; omega
      · obtain rfl : q = s.length := by omega
        have HN := next_done wr s h s.length 0 hi hlt
        go_wp2
        go_ret
        have eh := EH.out
        rw [← eh]
        exact ⟨rfl, hb⟩
  · have t3 : (r == 65533) = false := by rw [beq_eq_false_iff_ne]; exact hr
    go_enter Tryz.func99, Tryz.ntmps99
    go_wp2_with fail
    refine (Tryz.utf8_ValidRune r w).mono ?_
    rintro e w1 ⟨rfl, rfl⟩
    cases hv : Lib.validRune r with
    | false =>
      go_wp2
      go_ret
      exact ⟨rfl, Below.refl _ _⟩
    | true =>
      obtain ⟨f1, f2, f3⟩ := encode_facts r (by rw [validRune_eq]; exact hv) h0
      have f5 : ∀ k (h : k < (Utf8.encode r).size), k = (Utf8.encode r).size - 1 → 128 ≤ ((Utf8.encode r)[k]'h).toNat := by
        intro k h e
        subst e
        exact f3 h
      clear f3
      go_wp2_with fail
      refine wp_scope_straight ?_
      go_wp2_with fail
      generalize Utf8.encode r = E at *
      obtain ⟨m, hm'⟩ : ∃ m, m = E.size - 1 := ⟨_, rfl⟩
      have hmE : m < E.size := by omega
      have f4 := f5 m hmE hm'
      clear f5
      have e1 : (E.size : Int) - 1 = (m : Int) := by omega
      rw [e1]
      have dm : m < s.length := by omega
      have dm4 : m ≤ 4 := by omega
      clear e1 hm'
      go_loopw [9, 10] (fun v f wr => v = .int .i64 (m : Int) ∧ f = .int .i64 0 ∧ wr = w1) (fun _ _ _ => 0)
      case atStart => exact ⟨rfl, rfl, rfl⟩
      case round =>
        obtain ⟨rfl, rfl, rfl⟩ := hrel
        have d1 : decide (m < s.length) = true := by rw [decide_eq_true_eq]; omega
        have d2 : decide ((m : Int) < (s.length : Int)) = true := by rw [decide_eq_true_eq]; omega
        have d3 : (0 : Int) ≤ (m : Int) := by omega
        have d4 : (m : Int) < (s.length : Int) := by omega
        have d5 : (m : Int) < (E.size : Int) := by omega
        have d6 : m < s.length := by omega
        have d7 : m < E.size := by omega
        have hlt' : m < s.toArray.size := by rw [List.size_toArray]; omega
        have hx : ((⟨s.toArray⟩ : ByteArray)[m]'hlt').toNat < 128 := HS.out _ (by show s.toArray[m]'hlt' ∈ s; simp)
        generalize hxe : (⟨s.toArray⟩ : ByteArray)[m]'hlt' = x at *
        generalize hye : E[m]'hmE = y at *
        have hne : ((x.toNat : Int) != (y.toNat : Int)) = true := by rw [bne_iff_ne]; omega
        have w1 : IntKind.i64.wrap ((m : Int) + 1) = (m : Int) + 1 := IntWalk.i64_in _ (by omega)
        have d8 : (0 : Int) ≤ (m : Int) + 1 := by omega
        have d9 : (m : Int) + 1 ≤ (s.length : Int) := by omega
        have HC := Lib.hid (fun W => Tryz.strings_IndexByte ((⟨s.toArray⟩ : ByteArray).extract (m + 1) s.length) (y.toNat : Int) W)
        rw [show Lib.indexByte ((⟨s.toArray⟩ : ByteArray).extract (m + 1) s.length).data.toList ((y.toNat : Int).toNat.toUInt8) = -1 from ibyte_high _ _ (fun b hb => HS.out b (by simpa using mem_extract hb)) (by simpa using f4)] at HC
        clear f4 hx
        go_wp2_with fail
        refine wp_scope_straight ?_
        go_upto_region 6 with (fail)
        go_quiet (fail)
        go_upto_region 7 with (fail)
        generalize hw2 : wr.drewN _ = w2
        have HB2 : Hid (Below wr.heap.size wr w2.drew) := by rw [← hw2]; exact Lib.hid ((below_drewN_ (Below.refl _ _) _).drew)
        clear hw2
        refine wp_region_quiet (C := fun W => W = w2.drew) (by kernel_rfl) (by kernel_rfl) rfl ?_
        dsimp only
        iterate 7
          refine wpQuiet_val (v := ?_) (by rfl) ?_ ?_
          rotate_left
          · ((intro W hW; (try cases hW); go_simp); try with_reducible rfl)
          (try simp only [Act.put, List.setIfInBounds_toArray, List.set_cons_zero, List.set_cons_succ])
        refine wpQuiet_val (v := .int .i64 (-1)) (by rfl) (fun W hW => ?_) ?_
        · cases hW
          go_simp
          exact HC.out _
        (try simp only [Act.put, List.setIfInBounds_toArray, List.set_cons_zero, List.set_cons_succ])
        refine wpQuiet_val (v := ?_) (by rfl) ?_ ?_
        rotate_left
        · ((intro W hW; (try cases hW); go_simp); try with_reducible rfl)
        (try simp only [Act.put, List.setIfInBounds_toArray, List.set_cons_zero, List.set_cons_succ])
        refine wpQuiet_nil (fun W hW => ?_)
        subst hW
        clear hxe hye hne
        go_wp2
        rw [Exit.noGoto_ret]
        go_wp2
        rw [Exit.noGoto_ret]
        go_wp2
        go_ret
        exact ⟨rfl, HB2.out⟩
end Go.Proofs.YtphhkfelpckilaaGreatDoor

namespace Go.Proofs.YtphhkfelpckilaaGreatDoor
open Go Go.RowKit

def numR (s : List UInt8) (r : Nat) : Int := if r < 128 then Lib.indexByte s r.toUInt8 else -1
def runesB (b : ByteArray) : Nat → Nat → List Nat
  | 0, _ => []
  | f + 1, pos => if pos < b.size then (Utf8.decode b pos).1 :: runesB b f (pos + (Utf8.decode b pos).2) else []
def numsR (s t : List UInt8) : List Int := (runesB ⟨t.toArray⟩ t.length 0).map (numR s)
theorem runesB_len (b : ByteArray) : ∀ f pos, (runesB b f pos).length ≤ f
  | 0, _ => Nat.le_refl _
  | f + 1, pos => by
    unfold runesB
    split
    · have := runesB_len b f (pos + (Utf8.decode b pos).2)
      simp; omega
    · simp
theorem numsR_len (s t : List UInt8) : (numsR s t).length ≤ t.length := by unfold numsR; rw [List.length_map]; exact runesB_len _ _ _
theorem numR_ascii (s : List UInt8) (x : UInt8) (h : x.toNat < 128) : numR s x.toNat = numS s x := by
  unfold numR numS
  rw [if_pos h]
  simp
theorem getB {t : List UInt8} {pos : Nat} (_h : pos < t.length) (hs : pos < (⟨t.toArray⟩ : ByteArray).size) : (⟨t.toArray⟩ : ByteArray)[pos]'hs = t[pos] := rfl
theorem numsR_ascii (s t : List UInt8) (ht : ∀ x ∈ t, x.toNat < 128) : numsR s t = t.map (numS s) := by
  unfold numsR
  have hg : ∀ f pos, pos + f = t.length → (runesB ⟨t.toArray⟩ f pos).map (numR s) = (t.drop pos).map (numS s) := by
    intro f
    induction f with
    | zero => intro pos h; rw [List.drop_eq_nil_of_le (by omega)]; rfl
    | succ f ih =>
      intro pos h
      have hlt : pos < t.length := by omega
      have hs : pos < (⟨t.toArray⟩ : ByteArray).size := by simpa [ByteArray.size] using hlt
      have ha : ((⟨t.toArray⟩ : ByteArray)[pos]'hs).toNat < 128 := by rw [getB hlt hs]; exact ht _ (List.getElem_mem _)
      unfold runesB
      rw [if_pos hs, decode_ascii _ _ hs ha, List.map_cons, ih (pos + 1) (by omega), List.drop_eq_getElem_cons hlt, List.map_cons]
      dsimp only
      rw [getB hlt hs, numR_ascii s _ (ht _ (List.getElem_mem _))]
  simpa using hg t.length 0 (by omega)

theorem decode_step (b : ByteArray) (pos : Nat) (h : pos < b.size) : 1 ≤ (Utf8.decode b pos).2 := by
  by_cases ha : (b[pos]'h).toNat < 128
  · rw [decode_ascii b pos h ha]; exact Nat.le_refl _
  · exact (decode_high b pos h (by omega)).2
theorem next_any (W : World) (s : ByteArray) (b pos : Nat) (ty : TypeId) (hb : W.heap[b]? = some (.stringIter s pos)) (h : pos < s.size) :
    (Instr.next (.pointer (some ⟨b, 0, none⟩)) true ty).run Tryz.prog W = .ok (.tuple #[.bool true, .int .i64 pos, .int .i32 (Utf8.decode s pos).1]) (setIter W b s (pos + (Utf8.decode s pos).2)) := by
  simp only [Instr.next, getObj, setObj, Sem.run_bind, Sem.run, hb, Result.andThen, h, if_true]
  simp [goInt, setIter]

theorem number_rune (s : List UInt8) (r : Nat) (w : World) (hs : ∀ x ∈ s, x.toNat < 128) (hl : 4 ≤ s.length) (hl2 : s.length ≤ 100) (h1 : r ≤ 2147483647) :
    Calls Tryz.prog 80 #[.string ⟨s.toArray⟩, .int .i32 (r : Int)] w fun e w' => e = .returned (.int .i64 (numR s r)) ∧ Below w.heap.size w w' := by
  unfold numR
  by_cases h : r < 128
  · rw [if_pos h]
    refine (number_any s (r : Int) w (by omega) (by omega)).mono ?_
    rintro e w' ⟨rfl, rfl⟩
    exact ⟨rfl, Below.refl _ _⟩
  · rw [if_neg h]
    have HI := Lib.hid (idxr_any s (r : Int) w hs hl hl2 (by omega) (by omega))
    go_enter Tryz.func80, Tryz.ntmps80
    go_wp2_with (go_at_call 99; refine HI.out.mono ?_; rintro e w' ⟨rfl, hb⟩)
    go_ret
    exact ⟨rfl, hb⟩

set_option maxRecDepth 100000 in
set_option maxHeartbeats 2000000 in
theorem numbers_all (s t : List UInt8) (w : World) (hs : ∀ x ∈ s, x.toNat < 128) (hl1 : 4 ≤ s.length) (hl2 : s.length ≤ 100) (hl : t.length ≤ 1000) :
    Calls Tryz.prog 79 #[.string ⟨t.toArray⟩, .func (.func 80) #[.string ⟨s.toArray⟩] #[]] w fun e w' => ∃ v, e = .returned v ∧ OwnInts w.heap.size w' v (numsR s t) ∧ Below w.heap.size w w' := by
  have HNR := Lib.hid (fun r W h => number_rune s r W hs hl1 hl2 h)
  obtain ⟨R, hR⟩ : ∃ R, numsR s t = R := ⟨_, rfl⟩
  rw [hR]
  unfold numsR at hR
  have htb : (⟨t.toArray⟩ : ByteArray).size = t.length := by simp [ByteArray.size]
  clear hs hl1 hl2
  obtain ⟨tb, htb2⟩ : ∃ tb, tb = (⟨t.toArray⟩ : ByteArray) := ⟨_, rfl⟩
  rw [← htb2] at hR htb ⊢
  clear htb2
  generalize t.length = n at *
  have HR := Lib.hid hR
  have HTB := Lib.hid htb
  clear hR htb
  obtain ⟨h, eh⟩ : ∃ h, h = w.heap.size := ⟨_, rfl⟩
  have EH := Lib.hid eh
  go_enter Tryz.func79, Tryz.ntmps79
  go_wp2
  have hb0 : Below w.heap.size w (w.iter tb 0) := below_alloc (Below.refl _ _) _
  have hi0 := World.iter_heap w tb 0
  generalize w.iter tb 0 = w1 at *
  rw [← eh] at hi0
  simp only [← eh] at hb0 ⊢
  clear eh
  have hs1 : h + 1 ≤ w1.heap.size := bl_of hi0
  go_loopw [5] (fun v wr => ∃ (q f : Nat) (L : List Int), n ≤ q + f ∧ L.length + f = n ∧ wr.heap[h]? = some (.stringIter tb q) ∧ Below h w wr ∧ (∃ a c, v = .slice a L.length c) ∧ OwnInts (h + 1) wr v L ∧ Hid (L ++ (runesB tb f q).map (numR s) = R)) (fun v _ => n - lenOf v)
  case atStart => exact ⟨0, n, [], by omega, by simp, hi0, hb0, ⟨none, 0, rfl⟩, ⟨rfl, .inl ⟨rfl, rfl⟩⟩, HR⟩
  case round =>
    clear hi0 hb0 hs1
    obtain ⟨q, f, L, hqf, hLf, hi, hb, ⟨a, c, rfl⟩, ho, HL⟩ := hrel
    by_cases hlt : q < tb.size
    · have hqn : q < n := by have := HTB.out; omega
      obtain ⟨f', rfl⟩ : ∃ f', f = f' + 1 := ⟨f - 1, by omega⟩
      have hst := decode_step tb q hlt
      have hle := decode_le tb q
      have hq2 : q + 1 ≤ q + (Utf8.decode tb q).2 := by omega
      have HN := next_any wr tb h q 0 hi hlt
      have HL2 := HL.out
      unfold runesB at HL2
      rw [if_pos hlt, List.map_cons] at HL2
      have HLN := Lib.hid HL2
      clear HL HL2
      generalize (Utf8.decode tb q).1 = r at *
      generalize q + (Utf8.decode tb q).2 = q2 at *
      have hA := setIter_alters wr h tb q2
      have hl0 := bl_of hi
      have hi2 := setIter_block wr h tb q2 hl0
      generalize setIter wr h tb q2 = w2 at *
      have ho2 := ho.alters hA (fun k hk hv => by have hk : k = h := hk; have := (World.ownsRow.lt ho k hv.symm).1; omega)
      have hb2 := hb.trans (hA.below (Nat.le_of_lt hl0) (fun k hk => Nat.le_of_eq (Eq.symm hk)))
      have HO2 := Lib.hid ho2
      have HB2 := Lib.hid hb2
      have HI2 := Lib.hid hi2
      clear hi hb ho hA ho2 hb2 hi2 hl0 hst
      go_wp2_with fail
      refine (HNR.out r w2 hle).mono ?_
      rintro e w3 ⟨rfl, hb23⟩
      have hb3 := HB2.out.trans (hb23.mono (Nat.le_of_lt (bl_of HI2.out)))
      have ho3 := HO2.out.alters (S := fun _ => False) (Alters.of_below hb23) (fun _ h => h.elim)
      have hi3 := (hb23.block h (bl_of HI2.out)).trans HI2.out
      have hl3 := bl_of hi3
      generalize numR s r = x at *
      have hAB : Below w3.heap.size w3 (w3.alloc (.cells #[.int .i64 x] 3)) := (Below.refl _ _).alloc (Nat.le_refl _) _
      have HAB := Lib.hid hAB
      have HNA := Lib.hid (ho3.alters (S := fun _ => False) (Alters.of_below hAB) (fun _ h => h.elim))
      have HO3 := Lib.hid ho3
      have HB3 := Lib.hid hb3
      have HI3 := Lib.hid ((hAB.block h hl3).trans hi3)
      clear hb23 hb3 ho3 hi3 hAB HB2 HI2 HO2
      go_wp2_with (at_builtin; go_loud (refine wpList_push rfl (.tmp 13) (.tmp 17) rfl (h + 1) _ L rfl HNA.out (by omega) (by simp; omega) _ x rfl (cell_new_at _ _ _ _ _ _ rfl rfl) ?_; intro g8 cap8 w8 hown8 hg8 hat8))
      have hb8 := push_below HB3.out HAB.out (Nat.le_of_lt hl3) (OwnInts.mono HO3.out (Nat.le_succ h)) hg8
      have hi8 := (hg8.block h (bl_of HI3.out) (fun e => by have := (World.ownsRow.lt HO3.out h e.symm).1; omega)).trans HI3.out
      clear hat8
      go_roundw
      case rel => exact ⟨q2, f', L ++ [x], by omega, by simp; omega, hi8, hb8, ⟨some ⟨g8, 0, none⟩, cap8, by simp⟩, hown8, Lib.hid (by rw [List.append_assoc]; exact HLN.out)⟩
      case measure => simp [lenOf]; omega
    · have hqn : ¬ q < n := by have := HTB.out; omega
      have HN : (Instr.next (.pointer (some ⟨h, 0, none⟩)) true 0).run Tryz.prog wr = .ok (.tuple #[.bool false]) wr := by
        simp [Instr.next, getObj, Sem.run, hi, hlt]
      have HL2 : L = R := by
        rw [← HL.out]
        cases f with
        | zero => simp [runesB]
        | succ f => unfold runesB; rw [if_neg hlt]; simp
      subst HL2
      have HO := Lib.hid ho
      have HB := Lib.hid hb
      clear ho hb hi hlt HL
      go_wp2
      go_ret
      have hO := HO.out
      have eh := EH.out
      rw [← eh]
      exact ⟨_, rfl, OwnInts.mono hO (by omega), HB.out⟩
end Go.Proofs.YtphhkfelpckilaaGreatDoor

namespace Go.Proofs.YtphhkfelpckilaaGreatDoor
open Go Go.RowKit Go.Lib

theorem idx_no : ∀ (x : List UInt8), 47 ∉ x → index x [47] = -1
  | [], _ => by simp [index]
  | b :: l, h => by
    have h1 : ¬ b = 47 := fun e => h (by simp [e])
    have h2 : ¬ (47 : UInt8) = b := fun e => h1 e.symm
    have ih := idx_no l (fun e => h (by simp [e]))
    unfold index
    simp [List.isPrefixOf, h2, ih]
theorem idx_at : ∀ (x r : List UInt8), 47 ∉ x → index (x ++ 47 :: r) [47] = x.length
  | [], r, _ => by simp [index, List.isPrefixOf]
  | b :: l, r, h => by
    have h1 : ¬ b = 47 := fun e => h (by simp [e])
    have h2 : ¬ (47 : UInt8) = b := fun e => h1 e.symm
    have ih := idx_at l r (fun e => h (by simp [e]))
    rw [List.cons_append]
    unfold index
    have h3 : ¬ ((l.length : Int) = -1) := by omega
    simp [List.isPrefixOf, h2, ih, h3]
theorem cut_one (k : Nat) (x r : List UInt8) (hx : 47 ∉ x) : splitK [47] 0 (k + 1) (x ++ 47 :: r) = x :: splitK [47] 0 k r := by
  unfold splitK
  rw [idx_at x _ hx, if_neg (by rw [beq_iff_eq]; omega), Int.toNat_natCast]
  have e1 : (x ++ 47 :: r).take (x.length + 0) = x := by simp
  have e2 : (x ++ 47 :: r).drop (x.length + [(47 : UInt8)].length) = r := by
    rw [← List.drop_drop, List.drop_left]; rfl
  rw [e1, e2]
  cases k <;> rfl
theorem splitK_le (sep : List UInt8) : ∀ (k : Nat) (s x : List UInt8), x ∈ splitK sep 0 k s → x.length ≤ s.length
  | 0, s, x, h => by unfold splitK at h; rw [List.mem_singleton.1 h]; exact Nat.le_refl _
  | k + 1, s, x, h => by
    unfold splitK at h
    split at h
    · rw [List.mem_singleton.1 h]; exact Nat.le_refl _
    · rcases List.mem_cons.1 h with rfl | h
      · rw [List.length_take]; omega
      · have := splitK_le sep k _ x h
        rw [List.length_drop] at this
        omega

def partsS (s : List UInt8) : List (List UInt8) := splitK [47] 0 (s.count 47) s
def ofParts : List (List UInt8) → PosS
  | [t0, t1, t2, t3, t4] => ⟨numsR contS t0, numsR digS t1, numsR digS t2, atoiS t3, atoiS t4⟩
  | _ => posZero
def readP (s : List UInt8) : PosS := if 83 < s.length then posZero else ofParts (partsS s)

theorem parts_n (s : List UInt8) : countB ⟨s.toArray⟩ ⟨#[47]⟩ = s.count 47 := by
  have h := count_one 47 s
  rw [← h]
theorem parts_b (s : List UInt8) : (splitB ⟨#[47]⟩ 0 (s.count 47) ⟨s.toArray⟩).map (·.data.toList) = partsS s := by
  rw [splitB_data]
  rfl
theorem bytes_back : ∀ (l : List ByteArray) (m : List (List UInt8)), l.map (·.data.toList) = m → l = m.map fun t => (⟨t.toArray⟩ : ByteArray)
  | [], m, h => by subst h; rfl
  | b :: l, m, h => by
    subst h
    simp only [List.map_cons, Array.toArray_toList]
    rw [← bytes_back l _ rfl]
theorem parts_len (s : List UInt8) : (partsS s).length = s.count 47 + 1 := by
  rw [← parts_b, List.length_map]
  exact splitB_all ⟨#[47]⟩ (by decide) 0 _ _ (parts_n s)
theorem cont_ascii : ∀ x ∈ contS, x.toNat < 128 := by decide
theorem dig_ascii : ∀ x ∈ digS, x.toNat < 128 := by decide

theorem readP_num (s : List UInt8) : PosNum (readP s) := by
  unfold readP
  split
  · exact ⟨by simp [posZero], by simp [posZero], by simp [posZero], by simp [posZero], by simp [posZero]⟩
  · have hle := fun x hx => splitK_le [47] (s.count 47) s x hx
    have hs : s.length ≤ 83 := by omega
    unfold ofParts
    split
    · rename_i t0 t1 t2 t3 t4 he
      have g : ∀ x ∈ ([t0, t1, t2, t3, t4] : List (List UInt8)), x.length ≤ s.length := by rw [← he]; exact hle
      have h0 := numsR_len contS t0
      have h1 := numsR_len digS t1
      have h2 := numsR_len digS t2
      have g0 := g t0 (by simp)
      have g1 := g t1 (by simp)
      have g2 := g t2 (by simp)
      exact ⟨by dsimp only; omega, by dsimp only; omega, by dsimp only; omega, atoiS_bounds _, atoiS_bounds _⟩
    · exact ⟨by simp [posZero], by simp [posZero], by simp [posZero], by simp [posZero], by simp [posZero]⟩

/-- What read gives back. -/
def Reads (w : World) (p : PosS) (e : Ending) (w' : World) : Prop := ∃ a a0 a1 c c0 c1, e = .returned (PosV a a0 a1 c c0 c1 p) ∧ PosOwn w.heap.size w' a a0 a1 c c0 c1 p ∧ Below w.heap.size w w'
theorem own_nil (n : Nat) (W : World) : OwnInts n W (.slice none 0 0) [] := ⟨rfl, .inl ⟨rfl, rfl⟩⟩

set_option maxRecDepth 100000 in
set_option maxHeartbeats 1000000 in
theorem read_any (s : List UInt8) (w : World) (hE : EnvIn w) (hl : s.length ≤ 1000000) : Calls Tryz.prog 62 #[.string ⟨s.toArray⟩] w (Reads w (readP s)) := by
  by_cases h83 : 83 < s.length
  · have t1 : decide ((83 : Int) < s.length) = true := by simp; omega
    have t1' : decide (83 < s.length) = true := by simpa using h83
    have e : readP s = posZero := by unfold readP; rw [if_pos h83]
    rw [e]
    clear e
    go_enter Tryz.func62, Tryz.ntmps62
    go_wp2
    refine bodyPost_ret_by (v := .agg #[.slice none 0 0, .slice none 0 0, .slice none 0 0, .int .i64 0, .int .i64 0]) (results_cell_row rfl _ _ w.heap.size 32 _ (0, 0) _ rfl (World.alloc_heap_new _ _) Tryz.underlying32 rfl info_pos) rfl ?_
    exact ⟨none, none, none, 0, 0, 0, rfl, ⟨own_nil _ _, own_nil _ _, own_nil _ _⟩, below_alloc (Below.refl _ _) _⟩
  · have hs : s.length ≤ 83 := by omega
    by_cases h5 : s.count 47 = 4
    · have hp5 := parts_len s
      rw [h5] at hp5
      obtain ⟨t0, t1, t2, t3, t4, he⟩ : ∃ t0 t1 t2 t3 t4, partsS s = [t0, t1, t2, t3, t4] := by
        rcases hq : partsS s with _ | ⟨t0, _ | ⟨t1, _ | ⟨t2, _ | ⟨t3, _ | ⟨t4, _ | ⟨t5, l⟩⟩⟩⟩⟩⟩ <;> rw [hq] at hp5 <;> simp at hp5
        exact ⟨t0, t1, t2, t3, t4, rfl⟩
      have hle : ∀ x ∈ ([t0, t1, t2, t3, t4] : List (List UInt8)), x.length ≤ s.length := by rw [← he]; exact fun x hx => splitK_le [47] (s.count 47) s x hx
      have g0 := hle t0 (by simp)
      have g1 := hle t1 (by simp)
      have g2 := hle t2 (by simp)
      have g3 := hle t3 (by simp)
      have g4 := hle t4 (by simp)
      have hsp : splitB ⟨#[47]⟩ 0 4 ⟨s.toArray⟩ = [⟨t0.toArray⟩, ⟨t1.toArray⟩, ⟨t2.toArray⟩, ⟨t3.toArray⟩, ⟨t4.toArray⟩] := by
        have := bytes_back _ _ (parts_b s)
        rw [h5, he] at this
        exact this
      have e : readP s = ⟨numsR contS t0, numsR digS t1, numsR digS t2, atoiS t3, atoiS t4⟩ := by
        unfold readP
        rw [if_neg h83, he]
        rfl
      rw [e]
      exact read_by s t0 t1 t2 t3 t4 _ _ _ w hE hs (by rw [parts_n, h5]) hsp (by omega) (by omega)
        (fun W _ => numbers_all contS t0 W cont_ascii (by decide) (by decide) (by omega))
        (fun W _ => numbers_all digS t1 W dig_ascii (by decide) (by decide) (by omega))
        (fun W _ => numbers_all digS t2 W dig_ascii (by decide) (by decide) (by omega))
    · have e : readP s = posZero := by
        unfold readP
        rw [if_neg h83]
        have hp5 := parts_len s
        unfold ofParts
        split
        · rename_i he
          rw [he] at hp5
          simp at hp5; omega
        · rfl
      rw [e]
      obtain ⟨m, hm⟩ := hE.max
      have t83 : decide ((83 : Int) < s.length) = false := by simp; omega
      have t83' : decide (83 < s.length) = false := by simp; omega
      have hb0 : Below w.heap.size w (w.alloc (.cells #[.slice none 0 0, .slice none 0 0, .slice none 0 0, .int .i64 0, .int .i64 0] 32)) := below_alloc (Below.refl _ _) _
      have hR0 : (w.alloc (.cells #[.slice none 0 0, .slice none 0 0, .slice none 0 0, .int .i64 0, .int .i64 0] 32)).heap[w.heap.size]? = some (.cells #[.slice none 0 0, .slice none 0 0, .slice none 0 0, .int .i64 0, .int .i64 0] 32 (0, 0)) := World.alloc_heap_new _ _
      have hSP := Tryz.strings_Split ⟨s.toArray⟩ ⟨#[47]⟩ m (w.alloc (.cells #[.slice none 0 0, .slice none 0 0, .slice none 0 0, .int .i64 0, .int .i64 0] 32)) (by simp [ByteArray.size]; omega) (cell_keep hb0 hm) (by decide)
      rw [parts_n] at hSP
      have HSP := Lib.hid hSP
      have t5 : ((s.count 47 : Int) + 1 != 5) = true := by rw [bne_iff_ne]; omega
      have t5' : (((s.count 47 + 1 : Nat) : Int) != 5) = true := by rw [bne_iff_ne]; omega
      generalize s.count 47 = n at *
      clear hE hSP hm e h5
      go_enter Tryz.func62, Tryz.ntmps62
      go_wp2_with fail
      refine HSP.out.mono ?_
      rintro e w2 ⟨rfl, hw2⟩
      have hb2 : Below w.heap.size w w2 := by rw [hw2]; exact below_alloc hb0 _
      have hR2 : w2.heap[w.heap.size]? = some (.cells #[.slice none 0 0, .slice none 0 0, .slice none 0 0, .int .i64 0, .int .i64 0] 32 (0, 0)) := by rw [hw2]; exact (hp_old _ _ _ (by simp)).trans hR0
      clear hw2 HSP hb0 hR0
      have z0 := bx_cell hR2 0 rfl
      have z1 := bx_cell hR2 1 rfl
      have z2 := bx_cell hR2 2 rfl
      have z3 := bx_cell hR2 3 rfl
      have z4 := bx_cell hR2 4 rfl
      have y0 := bx_frozen hR2 0
      have y1 := bx_frozen hR2 1
      have y2 := bx_frozen hR2 2
      have y3 := bx_frozen hR2 3
      have y4 := bx_frozen hR2 4
      have HB := Lib.hid hb2
      have HR := Lib.hid hR2
      clear hb2 hR2
      go_wp2
      have hX := set5_block HR.out (.slice none 0 0) (.slice none 0 0) (.slice none 0 0) (.int .i64 0) (.int .i64 0)
      refine bodyPost_ret_by (v := .agg #[.slice none 0 0, .slice none 0 0, .slice none 0 0, .int .i64 0, .int .i64 0]) (results_cell_row rfl _ _ w.heap.size 32 _ (0, 0) _ rfl hX Tryz.underlying32 rfl info_pos) rfl ?_
      exact ⟨none, none, none, 0, 0, 0, rfl, ⟨own_nil _ _, own_nil _ _, own_nil _ _⟩, HB.out.trans ((set5_alters w2 w.heap.size _ _ _ _ _).below (Nat.le_of_lt (bx_lt HR.out)) (fun k hk => Nat.le_of_eq (Eq.symm hk)))⟩

theorem parse_all (bc r : Nat) (ks : List Bool) (vn vt vm vc vb ve : Value) (ak : Option Addr) (ck N : Nat) (s : List UInt8) (w : World) (hr : r ≤ 4) (hks : ks.length ≤ 1000) (hN : N ≤ w.heap.size) (hK : Keeps N w ak ks) (hE : EnvIn w) (hl : s.length ≤ 1000000) :
    Calls Tryz.prog 34 #[.agg #[.int .i64 (bc : Int), vn, vt, .slice ak ks.length ck, .int .i64 (r : Int), vm, vc, vb, ve], .string ⟨s.toArray⟩] w (Parsed w (parsedP bc r ks (readP s) s) (parsedE bc r ks (readP s) s)) :=
  parse_by bc r ks vn vt vm vc vb ve ak ck N s (readP s) w hr hks hN hK hE (readP_num s) (fun W hb => read_any s W (hE.up hb) hl)

/-! ### What is written of a position that a game made is read as that position -/
theorem numS_cont : ∀ n : Fin 13, numS contS (contS[(n : Nat)]?.getD 0) = (n : Nat) := by decide
theorem numS_dig : ∀ n : Fin 9, numS digS (digS[(n : Nat)]?.getD 0) = (n : Nat) := by decide
end Go.Proofs.YtphhkfelpckilaaGreatDoor

namespace Go.Proofs.YtphhkfelpckilaaGreatDoor
open Go Go.RowKit Go.Lib

theorem PosAll.valid {bc r : Nat} {ks : List Bool} {p : PosS} (h : PosAll bc r ks p) : posB bc r ks p = true := by
  unfold posB
  rw [h.len, h.cells, h.h0, h.h1, h.rights, h.side]
  simp
theorem allIn_at {l : List Int} {m : Int} (h : allIn l m = true) (hm : 0 ≤ m) (i : Nat) : 0 ≤ l[i]?.getD 0 ∧ l[i]?.getD 0 ≤ m := by
  by_cases hi : i < l.length
  · unfold allIn at h
    rw [List.all_eq_true] at h
    have := h l[i] (List.getElem_mem _)
    unfold upToB at this
    rw [List.getElem?_eq_getElem hi, Option.getD_some]
    simpa using this
  · rw [List.getElem?_eq_none (by omega)]; simpa using hm
theorem handB_at {ks : List Bool} {h : List Int} (hh : handB ks h = true) (i : Nat) : 0 ≤ h[i]?.getD 0 ∧ h[i]?.getD 0 ≤ 8 := by
  by_cases hi : i < h.length
  · unfold handB at hh
    rw [Bool.and_eq_true, List.all_eq_true] at hh
    have h2 := hh.2 i (by simpa using hi)
    unfold handOk upToB at h2
    simp only [Bool.and_eq_true, decide_eq_true_eq] at h2
    refine ⟨by omega, ?_⟩
    split at h2 <;> omega
  · rw [List.getElem?_eq_none (by omega)]; simp
/-- Of a valid position, in a game as the laws make them. -/
theorem PosAll.low {bc r : Nat} {ks : List Bool} {p : PosS} (h : PosAll bc r ks p) (hbc : bc ≤ 9) (hr : r ≤ 2) (hks : ks.length ≤ 2) : PosLow p := by
  have h1 := h.rights
  have h2 := h.side
  unfold upToB at h1 h2
  simp only [Bool.and_eq_true, decide_eq_true_eq] at h1 h2
  refine ⟨fun i => ?_, fun i => handB_at h.h0 i, fun i => handB_at h.h1 i, ⟨h1.1, ?_⟩, h2, by rw [h.len]; exact hbc, by rw [hand_len h.h0]; exact hks, by rw [hand_len h.h1]; exact hks⟩
  · have := allIn_at h.cells (by omega) i
    omega
  · rcases (show r = 0 ∨ r = 1 ∨ r = 2 by omega) with rfl | rfl | rfl <;> simp at h1 <;> omega

theorem signS_cons (s : List UInt8) (x : Int) (l : List Int) : signsS s (x :: l) = signS s x ++ signsS s l := rfl
theorem signs_mem (s : List UInt8) : ∀ (l : List Int) (b : UInt8), b ∈ signsS s l → b ∈ s
  | [], b, h => by simp [signsS] at h
  | x :: l, b, h => by
    rw [signS_cons, List.mem_append] at h
    rcases h with h | h
    · unfold signS at h
      split at h
      · rename_i hx
        rw [List.mem_singleton] at h
        have hi : x.toNat < s.length := by omega
        rw [List.getElem?_eq_getElem hi, Option.getD_some] at h
        rw [h]; exact List.getElem_mem _
      · cases h
    · exact signs_mem s l b h
theorem sign_mem (s : List UInt8) (x : Int) (b : UInt8) (h : b ∈ signS s x) : b ∈ s := signs_mem s [x] b (by rw [signS_cons]; simpa [signsS] using h)
theorem signs_back (s : List UInt8) (hT : ∀ n : Nat, n < s.length → numS s (s[n]?.getD 0) = (n : Int)) : ∀ (l : List Int), (∀ x ∈ l, 0 ≤ x ∧ x < s.length) → (signsS s l).map (numS s) = l
  | [], _ => rfl
  | x :: l, h => by
    have hx := h x (by simp)
    rw [signS_cons, List.map_append, signs_back s hT l (fun y hy => h y (by simp [hy]))]
    unfold signS
    rw [if_pos hx, List.map_singleton, hT x.toNat (by omega)]
    rw [Int.toNat_of_nonneg hx.1]
    rfl
theorem cont_num : ∀ n : Nat, n < contS.length → numS contS (contS[n]?.getD 0) = (n : Int) := fun n h => numS_cont ⟨n, h⟩
theorem dig_num : ∀ n : Nat, n < digS.length → numS digS (digS[n]?.getD 0) = (n : Int) := fun n h => numS_dig ⟨n, h⟩
theorem cont_no : (47 : UInt8) ∉ contS := by decide
theorem dig_no : (47 : UInt8) ∉ digS := by decide
theorem atoi_sign : ∀ n : Fin 9, atoiS (signS digS ((n : Nat) : Int)) = ((n : Nat) : Int) := by decide +kernel
theorem count_zero {l : List UInt8} (h : 47 ∉ l) : l.count 47 = 0 := List.count_eq_zero.2 h
theorem all_mem {l : List Int} {m : Int} (h : ∀ i : Nat, 0 ≤ l[i]?.getD 0 ∧ l[i]?.getD 0 ≤ m) : ∀ x ∈ l, 0 ≤ x ∧ x ≤ m := by
  intro x hx
  obtain ⟨i, hi, rfl⟩ := List.mem_iff_getElem.1 hx
  have := h i
  rwa [List.getElem?_eq_getElem hi, Option.getD_some] at this

theorem text_form {p : PosS} (hp : PosLow p) : textP p = signsS contS p.cells ++ 47 :: (signsS digS p.h0 ++ 47 :: (signsS digS p.h1 ++ 47 :: (signS digS p.rights ++ 47 :: signS digS p.side))) := by
  rw [← text_pt hp]
  simp [pt]
theorem read_text {p : PosS} (hp : PosLow p) : readP (textP p) = p := by
  have n0 : 47 ∉ signsS contS p.cells := fun h => cont_no (signs_mem _ _ _ h)
  have n1 : 47 ∉ signsS digS p.h0 := fun h => dig_no (signs_mem _ _ _ h)
  have n2 : 47 ∉ signsS digS p.h1 := fun h => dig_no (signs_mem _ _ _ h)
  have n3 : 47 ∉ signS digS p.rights := fun h => dig_no (sign_mem _ _ _ h)
  have n4 : 47 ∉ signS digS p.side := fun h => dig_no (sign_mem _ _ _ h)
  have l0 := signsS_len contS p.cells
  have l1 := signsS_len digS p.h0
  have l2 := signsS_len digS p.h1
  have l3 := signS_len digS p.rights
  have l4 := signS_len digS p.side
  have k0 := hp.lc
  have k1 := hp.l0
  have k2 := hp.l1
  have hlen : (textP p).length ≤ 83 := by
    rw [text_form hp]
    simp only [List.length_append, List.length_cons]
    omega
  have hcount : (textP p).count 47 = 4 := by
    rw [text_form hp]
    simp only [List.count_append, List.count_cons, count_zero n0, count_zero n1, count_zero n2, count_zero n3, count_zero n4]
    rfl
  have hparts : partsS (textP p) = [signsS contS p.cells, signsS digS p.h0, signsS digS p.h1, signS digS p.rights, signS digS p.side] := by
    unfold partsS
    rw [hcount, text_form hp, cut_one 3 _ _ n0, cut_one 2 _ _ n1, cut_one 1 _ _ n2, cut_one 0 _ _ n3]
    rfl
  have c0 : numsR contS (signsS contS p.cells) = p.cells := by
    rw [numsR_ascii _ _ (fun x hx => cont_ascii x (signs_mem _ _ _ hx))]
    exact signs_back contS cont_num _ (fun x hx => by have := all_mem hp.cells x hx; exact ⟨this.1, by show x < 13; omega⟩)
  have c1 : numsR digS (signsS digS p.h0) = p.h0 := by
    rw [numsR_ascii _ _ (fun x hx => dig_ascii x (signs_mem _ _ _ hx))]
    exact signs_back digS dig_num _ (fun x hx => by have := all_mem hp.h0 x hx; exact ⟨this.1, by show x < 9; omega⟩)
  have c2 : numsR digS (signsS digS p.h1) = p.h1 := by
    rw [numsR_ascii _ _ (fun x hx => dig_ascii x (signs_mem _ _ _ hx))]
    exact signs_back digS dig_num _ (fun x hx => by have := all_mem hp.h1 x hx; exact ⟨this.1, by show x < 9; omega⟩)
  have hat : ∀ n : Int, 0 ≤ n → n ≤ 8 → atoiS (signS digS n) = n := by
    intro n h0 h8
    obtain ⟨k, rfl⟩ := Int.eq_ofNat_of_zero_le h0
    exact atoi_sign ⟨k, by omega⟩
  have c3 := hat p.rights hp.rights.1 (by have := hp.rights.2; omega)
  have c4 := hat p.side hp.side.1 (by have := hp.side.2; omega)
  unfold readP
  rw [if_neg (by omega), hparts]
  unfold ofParts
  dsimp only
  rw [c0, c1, c2, c3, c4]
theorem text_inj {p q : PosS} (hp : PosLow p) (hq : PosLow q) (h : textP p = textP q) : p = q := by
  rw [← read_text hp, ← read_text hq, h]
theorem parse_text {bc r : Nat} {ks : List Bool} {p : PosS} (h : PosAll bc r ks p) (hbc : bc ≤ 9) (hr : r ≤ 2) (hks : ks.length ≤ 2) : parsedP bc r ks (readP (textP p)) (textP p) = p ∧ parsedE bc r ks (readP (textP p)) (textP p) = 0 := by
  rw [read_text (h.low hbc hr hks)]
  unfold parsedP parsedE parseOk
  rw [h.valid]
  simp
end Go.Proofs.YtphhkfelpckilaaGreatDoor
