/-
 The text of a game is read back: cutting into lines and words.
-/
import Derived.Test.YtbmcngoeinginaaGreatDoorCLinB
import Derived.Lib.IndexMore
namespace Go.Proofs.YtbmcngoeinginaaGreatDoor
open Go Go.RowKit Go.Lib
theorem idx_noC (c : UInt8) : ∀ (x : List UInt8), c ∉ x → index x [c] = -1
 | [], _ => by simp [index]
 | b :: l, h => by
   have h1 : ¬ b = c := fun e => h (by simp [e])
   have h2 : ¬ c = b := fun e => h1 e.symm
   have ih := idx_noC c l (fun e => h (by simp [e]));unfold index
   simp [List.isPrefixOf, h2, ih]
theorem idx_atC (c : UInt8) : ∀ (x r : List UInt8), c ∉ x → index (x ++ c :: r) [c] = x.length
 | [], r, _ => by simp [index, List.isPrefixOf]
 | b :: l, r, h => by
   have h1 : ¬ b = c := fun e => h (by simp [e])
   have h2 : ¬ c = b := fun e => h1 e.symm
   have ih := idx_atC c l r (fun e => h (by simp [e]));rw [List.cons_append];unfold index
   have h3 : ¬ ((l.length : Int) = -1) := by omega
   simp [List.isPrefixOf, h2, ih, h3]
theorem split_joinC (c : UInt8) : ∀ (r : List (List UInt8)) (x : List UInt8) (k : Nat), c ∉ x → (∀ y ∈ r, c ∉ y) → r.length ≤ k → splitK [c] 0 k (x ++ joinTail [c] r) = x :: r
 | [], x, k, hx, _, _ => by
   have e : x ++ joinTail [c] [] = x := by simp [joinTail]
   rw [e]
   cases k with
   | zero => rfl
   | succ k => unfold splitK; rw [idx_noC c x hx]; rfl
 | y :: r, x, k, hx, hr, hk => by
   obtain ⟨k, rfl⟩ : ∃ j, k = j + 1 := ⟨k - 1, by simp at hk; omega⟩
   have e : x ++ joinTail [c] (y :: r) = x ++ c :: (y ++ joinTail [c] r) := by simp [joinTail]
   have ih := split_joinC c r y k (hr y (by simp)) (fun z hz => hr z (by simp [hz])) (by simp at hk; omega)
   rw [e];unfold splitK
   rw [idx_atC c x _ hx, if_neg (by rw [beq_iff_eq]; omega), Int.toNat_natCast]
   have e1 : (x ++ c :: (y ++ joinTail [c] r)).take (x.length + 0) = x := by simp
   have e2 : (x ++ c :: (y ++ joinTail [c] r)).drop (x.length + [c].length) = y ++ joinTail [c] r := by
     rw [← List.drop_drop, List.drop_left]; rfl
   rw [e1, e2, ih]
theorem tail_len (c : UInt8) : ∀ r : List (List UInt8), r.length ≤ (joinTail [c] r).length
 | [] => by simp
 | y :: r => by
   have ih := tail_len c r
   have e3 : joinTail [c] (y :: r) = c :: (y ++ joinTail [c] r) := by simp [joinTail]
   rw [e3];simp only [List.length_cons, List.length_append]
   omega
theorem splitN_all (c : UInt8) (x : List UInt8) (r : List (List UInt8)) (n : Nat) (hx : c ∉ x) (hr : ∀ y ∈ r, c ∉ y) (hn : r.length + 1 ≤ n) : splitN (x ++ joinTail [c] r) [c] n = x :: r := by
 unfold splitN
 refine split_joinC c r x _ hx hr ?_
 have := tail_len c r
 rw [List.length_append]
 omega
theorem split_words (x : List UInt8) (xs : List (List UInt8)) (hx : WordB x) (h : ∀ y ∈ xs, WordB y) (hn : xs.length ≤ 65) : splitN (Lib.join (x :: xs) [32]) [32] 66 = x :: xs := by
 rw [join_cons]
 exact splitN_all 32 x xs 66 (fun hm => (hx.2 32 hm).2 rfl) (fun y hy hm => ((h y hy).2 32 hm).2 rfl) (by omega)
theorem flatL_tail : ∀ (l : List UInt8) (L : List (List UInt8)), flatL (l :: L) = l ++ joinTail [10] (L ++ [[]])
 | l, [] => by simp [flatL, joinTail]
 | l, y :: L => by
   have ih := flatL_tail y L
   have e : flatL (l :: y :: L) = l ++ (10 :: flatL (y :: L)) := by simp [flatL]
   rw [e, ih]
   simp [joinTail]
theorem split_lines (L : List (List UInt8)) (h0 : L ≠ []) (h : ∀ l ∈ L, (10 : UInt8) ∉ l) (hn : L.length ≤ 74) : splitN (flatL L) [10] 75 = L ++ [[]] := by
 cases L with
 | nil => exact absurd rfl h0
 | cons l L =>
   rw [flatL_tail]
   have := splitN_all 10 l (L ++ [[]]) 75 (h l (by simp)) (fun y hy => by
     rcases List.mem_append.1 hy with hy | hy
     · exact h y (by simp [hy])
     · simp only [List.mem_cons, List.not_mem_nil, or_false] at hy; subst hy; simp) (by simp at hn ⊢; omega)
   rw [this]
   rfl
theorem line_step (g : GameD) (i : Nat) (x : List UInt8) (xs : List (List UInt8)) (hx : WordB x) (h : ∀ y ∈ xs, WordB y) (hn : xs.length ≤ 65) (hk : keyNo x = some i) : lineG g (Lib.join (x :: xs) [32]) = stepN g i xs := by
 unfold lineG
 rw [split_words x xs hx h hn]
 show (match keyNo x with | some i => stepN g i xs | none => g) = _
 rw [hk]
theorem line_nil (g : GameD) : lineG g [] = g := by
 unfold lineG
 have : splitN [] [32] 66 = [[]] := by unfold splitN; rfl
 rw [this]
 have hk : keyNo (headW [[]]) = none := by decide
 rw [hk]
theorem read_lines (L : List (List UInt8)) (h0 : L ≠ []) (h : ∀ l ∈ L, (10 : UInt8) ∉ l) (hn : L.length ≤ 74) : readG (flatL L) = L.foldl lineG zeroG := by
 unfold readG
 rw [split_lines L h0 h hn, List.foldl_append, List.foldl_cons, List.foldl_nil, line_nil]
theorem keys_no : keyNo wBoard = some 0 ∧ keyNo wDir = some 1 ∧ keyNo wTurn = some 2 ∧ keyNo wKind = some 3 ∧ keyNo wProg = some 4 ∧ keyNo wRights = some 5 ∧ keyNo wMust = some 6 ∧ keyNo wLacks = some 7 ∧ keyNo wHolds = some 8 ∧ keyNo wFew = some 9 ∧ keyNo wBlocked = some 10 ∧ keyNo wEndless = some 11 := by decide
theorem res_back {n : Int} (h : 1 ≤ n ∧ n ≤ 3) : resN (resW n.toNat) = n := by
 have : n = 1 ∨ n = 2 ∨ n = 3 := by omega
 rcases this with rfl | rfl | rfl <;> decide
end Go.Proofs.YtbmcngoeinginaaGreatDoor
