/-
 Programs and texts: what is read from what is written, and what is written from what is read.
-/
import Derived.Test.YtbmcngoeinginaaGreatDoorCPro
import Derived.Lib.IndexMore
namespace Go.Proofs.YtbmcngoeinginaaGreatDoor
open Go Go.RowKit Go.Sort Go.Lib
theorem idx_no : ∀ (x : List UInt8), 32 ∉ x → index x [32] = -1
 | [], _ => by simp [index]
 | b :: l, h => by
   have h1 : ¬ b = 32 := fun e => h (by simp [e])
   have h2 : ¬ (32 : UInt8) = b := fun e => h1 e.symm
   have ih := idx_no l (fun e => h (by simp [e]));unfold index
   simp [List.isPrefixOf, h2, ih]
theorem idx_at : ∀ (x r : List UInt8), 32 ∉ x → index (x ++ 32 :: r) [32] = x.length
 | [], r, _ => by simp [index, List.isPrefixOf]
 | b :: l, r, h => by
   have h1 : ¬ b = 32 := fun e => h (by simp [e])
   have h2 : ¬ (32 : UInt8) = b := fun e => h1 e.symm
   have ih := idx_at l r (fun e => h (by simp [e]));rw [List.cons_append];unfold index
   have h3 : ¬ ((l.length : Int) = -1) := by omega
   simp [List.isPrefixOf, h2, ih, h3]
theorem split_join : ∀ (r : List (List UInt8)) (x : List UInt8) (k : Nat), 32 ∉ x → (∀ y ∈ r, 32 ∉ y) → r.length ≤ k → splitK [32] 0 k (x ++ joinTail [32] r) = x :: r
 | [], x, k, hx, _, _ => by
   have e : x ++ joinTail [32] [] = x := by simp [joinTail]
   rw [e]
   cases k with
   | zero => rfl
   | succ k => unfold splitK; rw [idx_no x hx]; rfl
 | y :: r, x, k, hx, hr, hk => by
   obtain ⟨k, rfl⟩ : ∃ j, k = j + 1 := ⟨k - 1, by simp at hk; omega⟩
   have e : x ++ joinTail [32] (y :: r) = x ++ 32 :: (y ++ joinTail [32] r) := by simp [joinTail]
   have ih := split_join r y k (hr y (by simp)) (fun z hz => hr z (by simp [hz])) (by simp at hk; omega)
   rw [e];unfold splitK
   rw [idx_at x _ hx, if_neg (by rw [beq_iff_eq]; omega), Int.toNat_natCast]
   have e1 : (x ++ 32 :: (y ++ joinTail [32] r)).take (x.length + 0) = x := by simp
   have e2 : (x ++ 32 :: (y ++ joinTail [32] r)).drop (x.length + [(32 : UInt8)].length) = y ++ joinTail [32] r := by
     rw [← List.drop_drop, List.drop_left]; rfl
   rw [e1, e2, ih]
theorem split_ne (k : Nat) (s : List UInt8) : ∃ x r, splitK [32] 0 k s = x :: r := by
 cases k with
 | zero => exact ⟨s, [], rfl⟩
 | succ k => unfold splitK; split <;> exact ⟨_, _, rfl⟩
theorem occ_cut {s : List UInt8} {i : Nat} (h : occAt s [32] i = true) : s = s.take i ++ 32 :: s.drop (i + 1) := by
 have h' : s.drop i = 32 :: s.drop (i + 1) := by
   unfold occAt at h
   cases hd : s.drop i with
   | nil => rw [hd] at h; simp at h
   | cons b t =>
     rw [hd] at h
     have hb : b = 32 := by
       simp [List.isPrefixOf] at h
       exact h.symm
     rw [hb, show s.drop (i + 1) = (s.drop i).drop 1 by rw [List.drop_drop], hd]
     rfl
 rw [← h', List.take_append_drop]
theorem join_split : ∀ (k : Nat) (s : List UInt8), join (splitK [32] 0 k s) [32] = s
 | 0, s => by unfold splitK; exact join_one s _
 | k + 1, s => by
   have ih := join_split k;unfold splitK
   rcases index_spec s [32] with ⟨h, _⟩ | ⟨i, h, _, ho, _⟩
   · rw [h]; exact join_one s _
   · rw [h, if_neg (by rw [beq_iff_eq]; omega), Int.toNat_natCast]
     have e := occ_cut ho;have h2 := ih (s.drop (i + [(32 : UInt8)].length));obtain ⟨x, r, hx⟩ := split_ne k (s.drop (i + [(32 : UInt8)].length));rw [hx] at h2 ⊢;rw [join_cons] at h2;rw [join_cons]
     have e3 : joinTail [32] (x :: r) = 32 :: (x ++ joinTail [32] r) := by simp [joinTail]
     rw [e3, h2];simp only [Nat.add_zero];exact e.symm
def fineB (op n : Nat) : Bool := !(okStep 8 6 4 ((op : Int), (n : Int))) || (decide (readS (writtenS ((op : Int), (n : Int))) = some ((op : Int), (n : Int))) && !((writtenS ((op : Int), (n : Int))).contains 32))
theorem fine_all : ((List.range 11).all fun op => (List.range 8).all fun n => fineB op n) = true := by decide +kernel
theorem fine_step {op n : Nat} (h11 : op < 11) (h8 : n < 8) (hok : okStep 8 6 4 ((op : Int), (n : Int)) = true) : readS (writtenS ((op : Int), (n : Int))) = some ((op : Int), (n : Int)) ∧ 32 ∉ writtenS ((op : Int), (n : Int)) := by
 have h := List.all_eq_true.1 (List.all_eq_true.1 fine_all op (by simpa using h11)) n (by simpa using h8)
 unfold fineB at h
 rw [hok] at h
 simp at h
 exact ⟨h.1, h.2⟩
theorem fine_mem {l : List (Int × Int)} (h : validP l 8 6 4 = true) {x : Int × Int} (hx : x ∈ l) : readS (writtenS x) = some x ∧ 32 ∉ writtenS x := by
 obtain ⟨j, hj⟩ := List.getElem?_of_mem hx
 have hlt := (List.getElem?_eq_some_iff.1 hj).1
 obtain ⟨op, n, e, h0, h11, h8⟩ := valid_step h hlt
 rw [hj, Option.getD_some] at e
 have hok : okStep 8 6 4 x = true := by
   unfold validP at h;simp only [Bool.and_eq_true, List.all_eq_true] at h;exact h.2.2.1 x hx
 subst e
 exact fine_step h11 h8 hok
theorem readAll_written : ∀ (l : List (Int × Int)), (∀ x ∈ l, readS (writtenS x) = some x) → readAll (l.map writtenS) = some l
 | [], _ => rfl
 | x :: l, h => by
   rw [List.map_cons, readAll, h x (by simp)]
   show (readAll (l.map writtenS)).map _ = _
   rw [readAll_written l (fun y hy => h y (by simp [hy]))]
   rfl
theorem parse_print {l : List (Int × Int)} (h : validP l 8 6 4 = true) : parseS (printS l) = (l, 0) := by
 obtain ⟨h1, h8⟩ := valid_len h
 have hf := fun x (hx : x ∈ l) => fine_mem h hx
 have hw : wordsOf (printS l) = l.map writtenS := by
   unfold printS wordsOf;rw [if_pos h]
   cases l with
   | nil => simp at h1
   | cons x r =>
     rw [List.map_cons, join_cons];unfold splitN;refine split_join (r.map writtenS) (writtenS x) _ (hf x (by simp)).2 (fun y hy => ?_) ?_
     · obtain ⟨z, hz, rfl⟩ := List.mem_map.1 hy
       exact (hf z (by simp [hz])).2
     · have hlen : ∀ (r : List (List UInt8)), r.length ≤ (joinTail [32] r).length := by
         intro r
         induction r with
         | nil => simp
         | cons y r ih =>
           have e3 : joinTail [32] (y :: r) = 32 :: (y ++ joinTail [32] r) := by simp [joinTail]
           rw [e3];simp only [List.length_cons, List.length_append]
           omega
       have := hlen (r.map writtenS);rw [List.length_map] at this ⊢;simp only [List.length_append, List.length_cons] at h8 ⊢
       omega
 unfold parseS
 rw [hw, readAll_written l (fun x hx => (hf x hx).1)]
 simp [h]
theorem read_written {s : List UInt8} {x : Int × Int} (h : readS s = some x) : writtenS x = s := by
 unfold readS at h
 cases hf : (List.range 11).find? (okR s) with
 | none => rw [hf] at h; simp at h
 | some j =>
   rw [hf] at h;have := List.find?_some hf;unfold okR at this;simp only [Bool.and_eq_true, decide_eq_true_eq] at this
   simp at h
   rw [← h];exact this.2
theorem readAll_words : ∀ (ws : List (List UInt8)) (l : List (Int × Int)), readAll ws = some l → l.map writtenS = ws
 | [], l, h => by simp [readAll] at h; subst h; rfl
 | x :: r, l, h => by
   unfold readAll at h
   cases hx : readS x with
   | none => rw [hx] at h; simp at h
   | some y =>
     rw [hx] at h
     cases hr : readAll r with
     | none => rw [hr] at h; simp at h
     | some t =>
       rw [hr] at h
       simp at h
       rw [← h, List.map_cons, read_written hx, readAll_words r t hr]
theorem print_parse {s : List UInt8} {l : List (Int × Int)} (h : parseS s = (l, 0)) : validP l 8 6 4 = true ∧ printS l = s := by
 unfold parseS at h
 cases hr : readAll (wordsOf s) with
 | none => rw [hr] at h; simp at h
 | some p =>
   rw [hr] at h;dsimp only at h
   by_cases hv : validP p 8 6 4 = true
   · rw [if_pos hv] at h
     have e : p = l := by simpa using h
     subst e;refine ⟨hv, ?_⟩;unfold printS;rw [if_pos hv, readAll_words _ _ hr];exact join_split _ _
   · rw [if_neg hv] at h
     simp at h
theorem parse_snd (s : List UInt8) : (∃ l, parseS s = (l, 0)) ∨ parseS s = ([], 20) := by
 unfold parseS
 split
 · exact .inr rfl
 · split
   · exact .inl ⟨_, rfl⟩
   · exact .inr rfl
end Go.Proofs.YtbmcngoeinginaaGreatDoor
