/-
 The reference's way to read a program, against the program's one.
-/
import Derived.Test.YtbmcngoeinginaaGreatDoorPTextM
import Derived.Test.YtbmcngoeinginaaGreatDoorQSteps
import Derived.Test.YtbmcngoeinginaaGreatDoorKRef
namespace Go.Proofs.YtbmcngoeinginaaGreatDoor
open Go Go.RowKit Go.Sort Go.Lib
def hitsOf (l : List (Int × Int)) (wd : List UInt8) : List (Int × Int) := l.filter fun x => decide (rwordS x = wd)
def hits (wd : List UInt8) : List (Int × Int) := hitsOf (stepsQ 80) wd
def scan1 (st : List (Int × Int) × List UInt8) (c : Option UInt8) : List (Int × Int) × List UInt8 :=
 match c with
 | some b => if b = 32 then (st.1 ++ hits st.2, []) else (st.1, st.2 ++ [b])
 | none => (st.1 ++ hits st.2, [])
def scanTo (s : List UInt8) : Nat → List (Int × Int) × List UInt8
 | 0 => ([], [])
 | i + 1 => scan1 (scanTo s i) s[i]?
theorem scan1_mono (st : List (Int × Int) × List UInt8) (c : Option UInt8) : st.1.length ≤ (scan1 st c).1.length := by
 unfold scan1
 split
 · split <;> simp
 · simp
theorem scanTo_mono (s : List UInt8) (i : Nat) : ∀ k, (scanTo s i).1.length ≤ (scanTo s (i + k)).1.length
 | 0 => Nat.le_refl _
 | k + 1 => Nat.le_trans (scanTo_mono s i k) (scan1_mono _ _)
theorem scanTo_fold (s : List UInt8) : ∀ i, i ≤ s.length → scanTo s i = (s.take i).foldl (fun st b => scan1 st (some b)) ([], [])
 | 0, _ => by simp [scanTo]
 | i + 1, h => by
   have hi : i < s.length := by omega
   rw [scanTo, scanTo_fold s i (by omega), List.take_add_one, List.getElem?_eq_getElem hi, List.foldl_append]
   rfl
theorem scan_word : ∀ (x : List UInt8) (o : List (Int × Int)) (wd : List UInt8), 32 ∉ x → x.foldl (fun st b => scan1 st (some b)) (o, wd) = (o, wd ++ x)
 | [], o, wd, _ => by simp
 | b :: x, o, wd, h => by
   have hb : ¬ b = 32 := fun e => h (by simp [e])
   have ih := scan_word x o (wd ++ [b]) (fun e => h (by simp [e]));rw [List.foldl_cons]
   have e1 : scan1 (o, wd) (some b) = (o, wd ++ [b]) := by simp [scan1, hb]
   rw [e1, ih]
   simp
theorem scan_words : ∀ (r : List (List UInt8)) (x : List UInt8) (o : List (Int × Int)), 32 ∉ x → (∀ y ∈ r, 32 ∉ y) →
   scan1 ((x ++ joinTail [32] r).foldl (fun st b => scan1 st (some b)) (o, [])) none = (o ++ hits x ++ r.flatMap hits, [])
 | [], x, o, hx, _ => by
   have e : x ++ joinTail [32] [] = x := by simp [joinTail]
   rw [e, scan_word x o [] hx]
   simp [scan1]
 | y :: r, x, o, hx, hr => by
   have e : x ++ joinTail [32] (y :: r) = x ++ 32 :: (y ++ joinTail [32] r) := by simp [joinTail]
   have ih := scan_words r y (o ++ hits x) (hr y (by simp)) (fun z hz => hr z (by simp [hz]));rw [e, List.foldl_append, scan_word x o [] hx, List.foldl_cons]
   have e1 : scan1 (o, [] ++ x) (some 32) = (o ++ hits x, []) := by simp [scan1]
   rw [e1, ih]
   simp [List.append_assoc]
def hitB (op n : Nat) : Bool := !(okStep 8 6 4 ((op : Int), (n : Int))) || decide (hits (writtenS ((op : Int), (n : Int))) = [((op : Int), (n : Int))])
theorem hit_all : ((List.range 11).all fun op => (List.range 8).all fun n => hitB op n) = true := by decide +kernel
theorem hit_ok {x : Int × Int} (h : okStep 8 6 4 x = true) : hits (writtenS x) = [x] := by
 obtain ⟨op, n, rfl, _, h11, h8⟩ := ok_nat h
 have h2 := List.all_eq_true.1 (List.all_eq_true.1 hit_all op (by simpa using h11)) n (by simpa using h8)
 unfold hitB at h2
 rw [h] at h2
 simpa using h2
theorem hits_map : ∀ (l : List (Int × Int)), (∀ x ∈ l, okStep 8 6 4 x = true) → (l.map writtenS).flatMap hits = l
 | [], _ => rfl
 | x :: l, h => by
   rw [List.map_cons, List.flatMap_cons, hit_ok (h x (by simp)), hits_map l (fun y hy => h y (by simp [hy]))]
   rfl
theorem scan_print {l : List (Int × Int)} (h : validP l 8 6 4 = true) : (scanTo (printS l) ((printS l).length + 1)).1 = l := by
 have hok : ∀ x ∈ l, okStep 8 6 4 x = true := ok_all' h
 have hf := fun x (hx : x ∈ l) => (fine_mem h hx).2
 obtain ⟨h1, _⟩ := valid_len h
 rw [scanTo, scanTo_fold _ _ (Nat.le_refl _), List.take_length, List.getElem?_eq_none (Nat.le_refl _)]
 unfold printS
 rw [if_pos h]
 cases l with
 | nil => simp at h1
 | cons x r =>
   rw [List.map_cons, join_cons, scan_words (r.map writtenS) (writtenS x) [] (hf x (by simp)) (fun y hy => by
     obtain ⟨z, hz, rfl⟩ := List.mem_map.1 hy;exact hf z (by simp [hz]))]
   rw [hit_ok (hok x (by simp)), hits_map r (fun y hy => hok y (by simp [hy]))]
   rfl
theorem ref_parse {s : List UInt8} {i : Nat} (hi : i = s.length + 1 ∨ 8 < (scanTo s i).1.length ∧ i ≤ s.length + 1) :
   parseS s = if printS (scanTo s i).1 = s ∧ s ≠ [] then ((scanTo s i).1, 0) else ([], 20) := by
 by_cases hc : printS (scanTo s i).1 = s ∧ s ≠ []
 · rw [if_pos hc]
   have hv : validP (scanTo s i).1 8 6 4 = true := by
     cases hv : validP (scanTo s i).1 8 6 4 with
     | true => rfl
     | false =>
       have := hc.1;unfold printS at this;rw [hv] at this;exact absurd this.symm (by simpa using hc.2)
   have h := parse_print hv;rw [hc.1] at h;exact h
 · rw [if_neg hc]
   rcases parse_snd s with ⟨l, hl⟩ | h
   · exfalso
     obtain ⟨hv, hp⟩ := print_parse hl;have hs := scan_print hv;rw [hp] at hs;obtain ⟨h1, h8⟩ := valid_len hv
     have hne : s ≠ [] := by
       intro e;subst e;rw [← hs] at h1;have e0 : (scanTo [] ([] : List UInt8).length.succ).1 = hits [] := rfl
       have : hits [] = [] := by decide +kernel
       simp [scanTo, scan1, this] at h1
     rcases hi with rfl | ⟨h9, hle⟩
     · rw [hs] at hc
       exact hc ⟨hp, hne⟩
     · have hm := scanTo_mono s i (s.length + 1 - i)
       rw [show i + (s.length + 1 - i) = s.length + 1 by omega, hs] at hm
       omega
   · exact h
end Go.Proofs.YtbmcngoeinginaaGreatDoor
