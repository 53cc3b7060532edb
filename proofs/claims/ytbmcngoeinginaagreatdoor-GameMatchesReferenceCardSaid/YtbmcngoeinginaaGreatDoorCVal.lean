/-
 Ranges over a text, for any seat.
 Valid of the package board.
 Valid of the package board, for all boards.
 Games as plain data, and what it means that memory holds them.
 isName and isResult of the package game.
 Find of the package game.
 isRight of the package game: a clause is right for a game.
 Valid of the package game.
 Valid of the package game, for every game.
-/
import Derived.Test.YtbmcngoeinginaaGreatDoorCBas
import Derived.Laws.RangeAny
import Derived.Laws.RangeString
import Derived.Laws.Runes
import Derived.WalkMore
import Derived.Test.YtbmcngoeinginaaGreatDoorShelf
import Derived.Test.YtbmcngoeinginaaGreatDoorCPro
namespace Go.Proofs.YtbmcngoeinginaaGreatDoor
open Go Go.RowKit
def setIter (W : World) (b : Nat) (s : ByteArray) (pos : Nat) : World := { W with heap := W.heap.setIfInBounds b (.stringIter s pos) }
theorem setIter_block (W : World) (b : Nat) (s : ByteArray) (pos : Nat) (h : b < W.heap.size) : (setIter W b s pos).heap[b]? = some (.stringIter s pos) := by
 simp [setIter, h]
theorem setIter_alters (W : World) (b : Nat) (s : ByteArray) (pos : Nat) : Alters (fun k => k = b) W (setIter W b s pos) :=
 ⟨rfl, rfl, rfl, by simp [setIter], fun k _ hk => by
   have hk : ¬ k = b := hk
   simp [setIter, Ne.symm hk]⟩
theorem next_done (W : World) (t : List UInt8) (b pos : Nat) (ty : TypeId) (hb : W.heap[b]? = some (.stringIter ⟨t.toArray⟩ pos)) (h : ¬ pos < t.length) :
   (Instr.next (.pointer (some ⟨b, 0, none⟩)) true ty).run Tryz.prog W = .ok (.tuple #[.bool false]) W := by
 have hs : ¬ pos < (⟨t.toArray⟩ : ByteArray).size := by simpa [ByteArray.size] using h
 simp [Instr.next, getObj, Sem.run, hb, hs]
theorem next_any (W : World) (s : ByteArray) (b pos : Nat) (ty : TypeId) (hb : W.heap[b]? = some (.stringIter s pos)) (h : pos < s.size) :
   (Instr.next (.pointer (some ⟨b, 0, none⟩)) true ty).run Tryz.prog W = .ok (.tuple #[.bool true, .int .i64 pos, .int .i32 (Utf8.decode s pos).1]) (setIter W b s (pos + (Utf8.decode s pos).2)) := by
 simp only [Instr.next, getObj, setObj, Sem.run_bind, Sem.run, hb, Result.andThen, h, if_true]
 simp [goInt, setIter]
theorem bx_cell {W : World} {B : Nat} {cs : Array Value} {t : TypeId} (h : W.heap[B]? = some (.cells cs t (0, 0))) (j : Nat) {v : Value} (hv : cs[j]? = some v) : W.cell? ⟨B, j, none⟩ = some v := by
 unfold World.cell?
 simp [h, hv]
theorem bx_frozen {W : World} {B : Nat} {cs : Array Value} {t : TypeId} (h : W.heap[B]? = some (.cells cs t (0, 0))) (j : Nat) : W.frozen? ⟨B, j, none⟩ = false := by
 unfold World.frozen?
 simp [h]
theorem bx_lt {W : World} {B : Nat} {o : Obj} (h : W.heap[B]? = some o) : B < W.heap.size := (Array.getElem?_eq_some_iff.1 h).1
theorem bl_of {W : World} {b : Nat} {o : Obj} (h : W.heap[b]? = some o) : b < W.heap.size := (Array.getElem?_eq_some_iff.1 h).1
end Go.Proofs.YtbmcngoeinginaaGreatDoor
namespace Go.Proofs.YtbmcngoeinginaaGreatDoor
open Go Go.RowKit
def okTurn (l : List Int) (d i : Nat) : Bool := decide (0 ≤ l[i]?.getD 0) && decide (l[i]?.getD 0 < (d : Int)) && decide (l[(l[i]?.getD 0).toNat]?.getD 0 = (i : Int))
def turnS (l : List Int) (d : Nat) : Bool := decide (l.length = d) && (List.range d).all (okTurn l d)
theorem turn_no {l : List Int} {d i : Nat} (hi : i < d) (h : okTurn l d i = false) : turnS l d = false := by
 unfold turnS
 rw [Bool.and_eq_false_iff]
 right
 rw [List.all_eq_false]
 exact ⟨i, by simpa using hi, by simpa using h⟩
theorem turn_yes {l : List Int} (h : ∀ j, j < l.length → okTurn l l.length j = true) : turnS l l.length = true := by
 unfold turnS
 simp only [decide_true, Bool.true_and, List.all_eq_true, List.mem_range]
 exact h
set_option maxRecDepth 100000 in
set_option maxHeartbeats 1000000 in
theorem turn_any (l : List Int) (d : Nat) (a : Option Addr) (ct N : Nat) (w : World) (hd : d ≤ 1000) (hI : Ints N w a l) :
   Calls Tryz.prog 54 #[.slice a l.length ct, .int .i64 d] w fun e w' => e = .returned (.bool (turnS l d)) ∧ w' = w := by
 go_enter Tryz.func54, Tryz.ntmps54
 by_cases hld : l.length = d
 · subst hld
   go_wp2
   go_loopw [13] (fun i wr => ∃ k : Nat, k ≤ l.length ∧ i = .int .i64 k ∧ (∀ j, j < k → okTurn l l.length j = true) ∧ wr = w)
     (fun i _ => l.length - (intOf i).toNat)
   case atStart => exact ⟨0, Nat.zero_le _, rfl, fun j hj => absurd hj (Nat.not_lt_zero _), rfl⟩
   case round =>
     obtain ⟨k, hk, rfl, hall, rfl⟩ := hrel
     by_cases hlt : k < l.length
     · obtain ⟨b, off, hab, _, hc⟩ := hI.at_ hlt
       subst hab;generalize hx : l[k]?.getD 0 = x at hc
       by_cases h1 : x < 0
       · have HO := Lib.hid (turn_no hlt (by simp [okTurn, hx]; omega) : turnS l l.length = false)
         clear hall hx hI;go_wp2
         go_ret
         exact ⟨by rw [HO.out]; rfl, rfl⟩
       · have h1' : decide (x < 0) = false := by simpa using h1
         by_cases h2 : x < (l.length : Int)
         · obtain ⟨m, rfl⟩ := Int.eq_ofNat_of_zero_le (show 0 ≤ x by omega)
           have hm : m < l.length := by omega
           obtain ⟨b', off', e, _, hc2⟩ := hI.at_ hm
           cases e
           generalize hy : l[m]?.getD 0 = y at hc2
           by_cases h3 : y = (k : Int)
           · have HO := Lib.hid (by unfold okTurn; rw [hx]; simp only [Int.toNat_natCast, hy]; simp [h3]; omega : okTurn l l.length k = true)
             have HA := Lib.hid hall;have HI := Lib.hid hI;clear hall hx hy hI;go_wp2
             go_roundw
             case rel => exact ⟨k + 1, by omega, by simp, fun j hj => by
               by_cases e : j = k
               · rw [e]; exact HO.out
               · exact HA.out j (by omega), trivial⟩
             case measure => simp [intOf]; omega
           · have h3' : (y != (k : Int)) = true := by simpa using h3
             have hm' : decide (l.length ≤ m) = false := by simpa using hm
             have HO := Lib.hid (turn_no hlt (by unfold okTurn; rw [hx]; simp only [Int.toNat_natCast, hy]; simp [h3]) : turnS l l.length = false)
             clear hall hx hy hI;go_wp2
             go_ret
             exact ⟨by rw [HO.out]; rfl, rfl⟩
         · have h2' : decide (x < (l.length : Int)) = false := by simpa using h2
           have HO := Lib.hid (turn_no hlt (by simp [okTurn, hx]; omega) : turnS l l.length = false)
           clear hall hx hI;go_wp2
           go_ret
           exact ⟨by rw [HO.out]; rfl, rfl⟩
     · obtain rfl : k = l.length := by omega
       go_wp2
       go_ret
       exact ⟨by rw [turn_yes hall]; rfl, rfl⟩
 · have hno : turnS l d = false := by simp [turnS, hld]
   have hne : decide ((l.length : Int) = (d : Int)) = false := by simp; omega
   go_wp2
   go_ret
   exact ⟨by rw [hno]; rfl, rfl⟩
end Go.Proofs.YtbmcngoeinginaaGreatDoor
namespace Go.Proofs.YtbmcngoeinginaaGreatDoor
open Go Go.RowKit
def outS (n c : Int) : Bool := decide (c < -1) || decide (n ≤ c)
def rowOk (n : Int) (row : List Int) : Bool := decide ((row.length : Int) = n) && !(row.any (outS n))
def validS (B : Brd) : Bool := decide (1 ≤ B.cells) && decide (B.cells ≤ 64) && decide (1 ≤ B.next.length) && decide (B.next.length ≤ 8) && B.next.all (rowOk B.cells) && turnS B.turn B.next.length
theorem outside_gives (n c : Int) (Bb : Nat) (W : World) (hb : W.cell? ⟨Bb, 0, none⟩ = some (.int .i64 n)) :
   Go.Proofs.FnGives Tryz.prog 52 #[.pointer (some ⟨Bb, 0, none⟩)] #[.int .i64 c] (.bool (outS n c)) W := by
 show Calls Tryz.prog 52 #[.int .i64 c, .pointer (some ⟨Bb, 0, none⟩)] W _
 unfold outS
 by_cases h : c < -1
 · go_enter Tryz.func52, Tryz.ntmps52
   go_wp2
   go_ret
   exact ⟨by simp [h], 0, rfl⟩
 · have h' : decide (c < -1) = false := by simpa using h
   rw [h'];go_enter Tryz.func52, Tryz.ntmps52;go_wp2
   go_ret
   exact ⟨by simp, 0, rfl⟩
theorem row_no {B : Brd} {k : Nat} (hk : k < B.next.length) (h : rowOk B.cells (B.next[k]?.getD []) = false) : validS B = false := by
 have : B.next.all (rowOk B.cells) = false := by
   rw [List.all_eq_false];exact ⟨B.next[k], List.getElem_mem hk, by simpa [hk] using h⟩
 simp [validS, this]
set_option maxRecDepth 100000 in
set_option maxHeartbeats 2000000 in
theorem bvalid_all (B : Brd) (an at_ : Option Addr) (cn ct N : Nat) (w : World) (hN : N ≤ w.heap.size) (hH : Held N w an at_ B) :
   Calls Tryz.prog 26 #[B.val an cn at_ ct] w fun e w' => e = .returned (.bool (validS B)) ∧ Below w.heap.size w w' := by
 by_cases h1 : B.cells < 1
 · have HO := Lib.hid (by simp [validS]; omega : validS B = false)
   go_enter Tryz.func26, Tryz.ntmps26;go_wp2
   go_ret
   exact ⟨by rw [HO.out]; rfl, by exact BLW⟩
 have h1' : decide (B.cells < 1) = false := by simpa using h1
 by_cases h2 : 64 < B.cells
 · have HO := Lib.hid (by simp [validS]; omega : validS B = false)
   go_enter Tryz.func26, Tryz.ntmps26;go_wp2
   go_ret
   exact ⟨by rw [HO.out]; rfl, by exact BLW⟩
 have h2' : decide (64 < B.cells) = false := by simpa using h2
 by_cases h3 : B.next.length < 1
 · have HO := Lib.hid (by simp [validS]; omega : validS B = false)
   have h3' : decide ((B.next.length : Int) < 1) = true := by simp; omega
   go_enter Tryz.func26, Tryz.ntmps26;go_wp2
   go_ret
   exact ⟨by rw [HO.out]; rfl, by exact BLW⟩
 have h3' : decide ((B.next.length : Int) < 1) = false := by simp; omega
 by_cases h4 : 8 < B.next.length
 · have HO := Lib.hid (by simp [validS]; omega : validS B = false)
   have h4' : decide ((8 : Int) < (B.next.length : Int)) = true := by simp; omega
   go_enter Tryz.func26, Tryz.ntmps26;go_wp2
   go_ret
   exact ⟨by rw [HO.out]; rfl, by exact BLW⟩
 have h4' : decide ((8 : Int) < (B.next.length : Int)) = false := by simp; omega
 have h1n : 1 ≤ B.cells := by omega
 have h2n : B.cells ≤ 64 := by omega
 have h3n : 1 ≤ B.next.length := by omega
 have h4n : B.next.length ≤ 8 := by omega
 go_enter Tryz.func26, Tryz.ntmps26
 go_wp2
 obtain ⟨w1, hw1⟩ : ∃ w1, w.alloc (Obj.cells #[Value.int IntKind.i64 B.cells, Value.slice an B.next.length cn, Value.slice at_ B.turn.length ct] 34) = w1 := ⟨_, rfl⟩
 have hs1 : w1.heap.size = w.heap.size + 1 := by rw [← hw1]; simp
 have hB1 : Below w.heap.size w w1 := by rw [← hw1]; exact BLW
 have k0 : w1.cell? ⟨w.heap.size, 0, none⟩ = some (.int .i64 B.cells) := by rw [← hw1]; exact cell_new_at _ _ _ _ _ _ rfl rfl
 have k1 : w1.cell? ⟨w.heap.size, 1, none⟩ = some (.slice an B.next.length cn) := by rw [← hw1]; exact cell_new_at _ _ _ _ _ _ rfl rfl
 have k2 : w1.cell? ⟨w.heap.size, 2, none⟩ = some (.slice at_ B.turn.length ct) := by rw [← hw1]; exact cell_new_at _ _ _ _ _ _ rfl rfl
 have hH1 := hH.up hN hB1
 rw [hw1]
 clear hw1
 have HS1 := Lib.hid hs1
 have hN1 : N ≤ w1.heap.size := by omega
 clear hs1
 go_loopw [29] (fun i wr => ∃ k : Nat, k ≤ B.next.length ∧ i = .int .i64 k ∧ (∀ j, j < k → rowOk B.cells (B.next[j]?.getD []) = true) ∧ Below w1.heap.size w1 wr)
   (fun i _ => B.next.length - (intOf i).toNat)
 case atStart => exact ⟨0, Nat.zero_le _, rfl, fun j hj => absurd hj (Nat.not_lt_zero _), Below.refl _ _⟩
 case round =>
   obtain ⟨k, hk, rfl, hall, hbr⟩ := hrel;have c0 := cell_keep hbr k0;have c1 := cell_keep hbr k1;have c2 := cell_keep hbr k2;have hHr := hH1.up hN1 hbr
   by_cases hlt : k < B.next.length
   · obtain ⟨b, off, aj, cj, hab, hbN, hc, hI⟩ := hHr.1.at_ hlt
     subst hab
     have hno := fun h => row_no (B := B) hlt h
     generalize hr : B.next[k]?.getD [] = r at hc hI hno
     by_cases hl : (r.length : Int) = B.cells
     · rcases hI with rfl | ⟨b2, off2, rfl, hb2, hcr⟩
       · simp at hl; omega
       have hl' : ((r.length : Int) != B.cells) = false := by simpa using hl
       have hcon := Tryz.slices_ContainsFunc (Value.int .i64) (outS B.cells) 52 #[.pointer (some ⟨w.heap.size, 0, none⟩)] (enters_of Tryz.func52 (by kernel_rfl) rfl) b2 off2 r.length cj r wr
         (fun W x hb => outside_gives B.cells x w.heap.size W (cell_keep hb c0)) (Nat.le_refl _) (by omega) (fun j hj => by rw [hcr j hj]; simp [hj])
       rw [List.take_length] at hcon
       change Calls Tryz.prog 53 _ _ _ at hcon
       have HA := Lib.hid hall
       cases hany : r.any (outS B.cells) with
       | true =>
         have HO := Lib.hid (hno (by simp [rowOk, hany]));rw [hany] at hcon;clear hall hno hr hHr hcr
         go_wp2_with (go_at_call 53; refine hcon.mono ?_; rintro e w' ⟨rfl, q, rfl⟩)
         go_ret
         exact ⟨by rw [HO.out]; rfl, by have := below_step hB1 hbr; exact BLW⟩
       | false =>
         have HO := Lib.hid (by rw [hr]; simp [rowOk, hany, hl] : rowOk B.cells (B.next[k]?.getD []) = true)
         rw [hany] at hcon;clear hall hno hr hHr hcr
         go_wp2_with (go_at_call 53; refine hcon.mono ?_; rintro e w' ⟨rfl, q, rfl⟩)
         go_roundw
         case rel => exact ⟨k + 1, by omega, by simp, fun j hj => by
           by_cases e : j = k
           · rw [e]; exact HO.out
           · exact HA.out j (by omega), below_drewN_ hbr q⟩
         case measure => simp [intOf]; omega
     · have hl' : ((r.length : Int) != B.cells) = true := by simpa using hl
       have HO := Lib.hid (hno (by simp [rowOk, hl]));clear hall hno hr hHr;go_wp2
       go_ret
       exact ⟨by rw [HO.out]; rfl, by have := below_step hB1 hbr; exact BLW⟩
   · obtain rfl : k = B.next.length := by omega
     have HO := Lib.hid (by
       have : B.next.all (rowOk B.cells) = true := by
         rw [List.all_eq_true];intro r hr;obtain ⟨i, hi⟩ := List.getElem?_of_mem hr;have := hall i (List.getElem?_eq_some_iff.1 hi).1
         rwa [hi] at this
       simp [validS, this]; omega : validS B = turnS B.turn B.next.length)
     go_wp2_with (go_at_call 54; refine (turn_any B.turn B.next.length at_ ct N _ (by omega) hHr.2).mono ?_; rintro e w' ⟨rfl, rfl⟩)
     go_ret
     exact ⟨by rw [HO.out]; rfl, by have := below_step hB1 hbr; exact BLW⟩
end Go.Proofs.YtbmcngoeinginaaGreatDoor
namespace Go.Proofs.YtbmcngoeinginaaGreatDoor
open Go Go.RowKit
structure KindD where
 name : List UInt8
 progs : List (List (Int × Int))
 keep : Bool
structure ClauseD where
 cond : Int
 kind : Int
 n : Int
 out : Int
structure GameD where
 b : Brd
 kinds : List KindD
 rights : Int
 must : Bool
 clauses : List ClauseD
 blocked : Int
 endless : Int
def ProgsIn (n : Nat) (W : World) (a : Option Addr) (ps : List (List (Int × Int))) : Prop :=
 ps = [] ∨ ∃ b off, a = some ⟨b, off, none⟩ ∧ b < n ∧ ∀ j (h : j < ps.length), ∃ aj cj, W.cell? ⟨b, off + j, none⟩ = some (.slice aj (ps[j]'h).length cj) ∧ Prg n W aj (ps[j]'h)
theorem ProgsIn.below {n : Nat} {A B : World} {a : Option Addr} {ps : List (List (Int × Int))} (h : ProgsIn n A a ps) (hb : Below n A B) : ProgsIn n B a ps := by
 rcases h with h | ⟨b, off, e, hn, hc⟩
 · exact .inl h
 · refine .inr ⟨b, off, e, hn, fun j hj => ?_⟩
   obtain ⟨aj, cj, h1, h2⟩ := hc j hj;exact ⟨aj, cj, (hb.cell (p := ⟨b, off + j, none⟩) hn).trans h1, h2.below hb⟩
theorem ProgsIn.mono {n m : Nat} {A : World} {a : Option Addr} {ps : List (List (Int × Int))} (h : ProgsIn n A a ps) (hm : n ≤ m) : ProgsIn m A a ps := by
 rcases h with h | ⟨b, off, e, hn, hc⟩
 · exact .inl h
 · refine .inr ⟨b, off, e, by omega, fun j hj => ?_⟩
   obtain ⟨aj, cj, h1, h2⟩ := hc j hj;exact ⟨aj, cj, h1, h2.mono hm⟩
theorem ProgsIn.up {N : Nat} {w w1 : World} {a : Option Addr} {ps : List (List (Int × Int))} (h : ProgsIn N w a ps) (hN : N ≤ w.heap.size) (hb : Below w.heap.size w w1) : ProgsIn N w1 a ps := h.below (hb.mono hN)
theorem ProgsIn.at_ {n : Nat} {W : World} {a : Option Addr} {ps : List (List (Int × Int))} (h : ProgsIn n W a ps) {j : Nat} (hj : j < ps.length) :
   ∃ b off aj cj, a = some ⟨b, off, none⟩ ∧ b < n ∧ W.cell? ⟨b, off + j, none⟩ = some (.slice aj (ps[j]'hj).length cj) ∧ Prg n W aj (ps[j]'hj) := by
 rcases h with rfl | ⟨b, off, e, hn, hc⟩
 · simp at hj
 · obtain ⟨aj, cj, h1, h2⟩ := hc j hj
   exact ⟨b, off, aj, cj, e, hn, h1, h2⟩
def KindsIn (n : Nat) (W : World) (a : Option Addr) (ks : List KindD) : Prop :=
 ks = [] ∨ ∃ b off, a = some ⟨b, off, none⟩ ∧ b < n ∧ ∀ i (h : i < ks.length), W.cell? ⟨b, off + i * 3, none⟩ = some (.string ⟨(ks[i]'h).name.toArray⟩) ∧
   (∃ aj cj, W.cell? ⟨b, off + i * 3 + 1, none⟩ = some (.slice aj (ks[i]'h).progs.length cj) ∧ ProgsIn n W aj (ks[i]'h).progs) ∧ W.cell? ⟨b, off + i * 3 + 2, none⟩ = some (.bool (ks[i]'h).keep)
theorem KindsIn.below {n : Nat} {A B : World} {a : Option Addr} {ks : List KindD} (h : KindsIn n A a ks) (hb : Below n A B) : KindsIn n B a ks := by
 rcases h with h | ⟨b, off, e, hn, hc⟩
 · exact .inl h
 · refine .inr ⟨b, off, e, hn, fun i hi => ?_⟩
   obtain ⟨h1, ⟨aj, cj, h2, h3⟩, h4⟩ := hc i hi;exact ⟨(hb.cell (p := ⟨b, off + i * 3, none⟩) hn).trans h1, ⟨aj, cj, (hb.cell (p := ⟨b, off + i * 3 + 1, none⟩) hn).trans h2, h3.below hb⟩, (hb.cell (p := ⟨b, off + i * 3 + 2, none⟩) hn).trans h4⟩
theorem KindsIn.mono {n m : Nat} {A : World} {a : Option Addr} {ks : List KindD} (h : KindsIn n A a ks) (hm : n ≤ m) : KindsIn m A a ks := by
 rcases h with h | ⟨b, off, e, hn, hc⟩
 · exact .inl h
 · refine .inr ⟨b, off, e, by omega, fun i hi => ?_⟩
   obtain ⟨h1, ⟨aj, cj, h2, h3⟩, h4⟩ := hc i hi;exact ⟨h1, ⟨aj, cj, h2, h3.mono hm⟩, h4⟩
theorem KindsIn.up {N : Nat} {w w1 : World} {a : Option Addr} {ks : List KindD} (h : KindsIn N w a ks) (hN : N ≤ w.heap.size) (hb : Below w.heap.size w w1) : KindsIn N w1 a ks := h.below (hb.mono hN)
theorem KindsIn.at_ {n : Nat} {W : World} {a : Option Addr} {ks : List KindD} (h : KindsIn n W a ks) {i : Nat} (hi : i < ks.length) :
   ∃ b off aj cj, a = some ⟨b, off, none⟩ ∧ b < n ∧ W.cell? ⟨b, off + i * 3, none⟩ = some (.string ⟨(ks[i]'hi).name.toArray⟩) ∧ W.cell? ⟨b, off + i * 3 + 1, none⟩ = some (.slice aj (ks[i]'hi).progs.length cj) ∧ ProgsIn n W aj (ks[i]'hi).progs ∧ W.cell? ⟨b, off + i * 3 + 2, none⟩ = some (.bool (ks[i]'hi).keep) := by
 rcases h with rfl | ⟨b, off, e, hn, hc⟩
 · simp at hi
 · obtain ⟨h1, ⟨aj, cj, h2, h3⟩, h4⟩ := hc i hi
   exact ⟨b, off, aj, cj, e, hn, h1, h2, h3, h4⟩
def ClausesIn (n : Nat) (W : World) (a : Option Addr) (cs : List ClauseD) : Prop :=
 cs = [] ∨ ∃ b off, a = some ⟨b, off, none⟩ ∧ b < n ∧ ∀ i (h : i < cs.length), W.cell? ⟨b, off + i * 4, none⟩ = some (.int .i64 (cs[i]'h).cond) ∧ W.cell? ⟨b, off + i * 4 + 1, none⟩ = some (.int .i64 (cs[i]'h).kind) ∧ W.cell? ⟨b, off + i * 4 + 2, none⟩ = some (.int .i64 (cs[i]'h).n) ∧ W.cell? ⟨b, off + i * 4 + 3, none⟩ = some (.int .i64 (cs[i]'h).out)
theorem ClausesIn.below {n : Nat} {A B : World} {a : Option Addr} {cs : List ClauseD} (h : ClausesIn n A a cs) (hb : Below n A B) : ClausesIn n B a cs := by
 rcases h with h | ⟨b, off, e, hn, hc⟩
 · exact .inl h
 · refine .inr ⟨b, off, e, hn, fun i hi => ?_⟩
   obtain ⟨h1, h2, h3, h4⟩ := hc i hi;exact ⟨(hb.cell (p := ⟨b, off + i * 4, none⟩) hn).trans h1, (hb.cell (p := ⟨b, off + i * 4 + 1, none⟩) hn).trans h2, (hb.cell (p := ⟨b, off + i * 4 + 2, none⟩) hn).trans h3, (hb.cell (p := ⟨b, off + i * 4 + 3, none⟩) hn).trans h4⟩
theorem ClausesIn.mono {n m : Nat} {A : World} {a : Option Addr} {cs : List ClauseD} (h : ClausesIn n A a cs) (hm : n ≤ m) : ClausesIn m A a cs := by
 rcases h with h | ⟨b, off, e, hn, hc⟩
 · exact .inl h
 · exact .inr ⟨b, off, e, by omega, hc⟩
theorem ClausesIn.up {N : Nat} {w w1 : World} {a : Option Addr} {cs : List ClauseD} (h : ClausesIn N w a cs) (hN : N ≤ w.heap.size) (hb : Below w.heap.size w w1) : ClausesIn N w1 a cs := h.below (hb.mono hN)
theorem ClausesIn.at_ {n : Nat} {W : World} {a : Option Addr} {cs : List ClauseD} (h : ClausesIn n W a cs) {i : Nat} (hi : i < cs.length) :
   ∃ b off, a = some ⟨b, off, none⟩ ∧ b < n ∧ W.cell? ⟨b, off + i * 4, none⟩ = some (.int .i64 (cs[i]'hi).cond) ∧ W.cell? ⟨b, off + i * 4 + 1, none⟩ = some (.int .i64 (cs[i]'hi).kind) ∧ W.cell? ⟨b, off + i * 4 + 2, none⟩ = some (.int .i64 (cs[i]'hi).n) ∧ W.cell? ⟨b, off + i * 4 + 3, none⟩ = some (.int .i64 (cs[i]'hi).out) := by
 rcases h with rfl | ⟨b, off, e, hn, hc⟩
 · simp at hi
 · obtain ⟨h1, h2, h3, h4⟩ := hc i hi
   exact ⟨b, off, e, hn, h1, h2, h3, h4⟩
structure GPl where
 an : Option Addr
 cn : Nat
 at_ : Option Addr
 ct : Nat
 ak : Option Addr
 ck : Nat
 ac : Option Addr
 cc : Nat
def GameD.cells (g : GameD) (x : GPl) : Array Value := #[.int .i64 g.b.cells, .slice x.an g.b.next.length x.cn, .slice x.at_ g.b.turn.length x.ct, .slice x.ak g.kinds.length x.ck, .int .i64 g.rights, .bool g.must, .slice x.ac g.clauses.length x.cc, .int .i64 g.blocked, .int .i64 g.endless]
structure GameIn (n : Nat) (W : World) (x : GPl) (g : GameD) : Prop where
 board : Held n W x.an x.at_ g.b
 kinds : KindsIn n W x.ak g.kinds
 clauses : ClausesIn n W x.ac g.clauses
theorem GameIn.mono {n m : Nat} {W : World} {x : GPl} {g : GameD} (h : GameIn n W x g) (hm : n ≤ m) : GameIn m W x g := ⟨h.board.mono hm, h.kinds.mono hm, h.clauses.mono hm⟩
theorem GameIn.up {N : Nat} {W W' : World} {x : GPl} {g : GameD} (h : GameIn N W x g) (hN : N ≤ W.heap.size) (hb : Below W.heap.size W W') : GameIn N W' x g := ⟨h.board.up hN hb, h.kinds.up hN hb, h.clauses.up hN hb⟩
end Go.Proofs.YtbmcngoeinginaaGreatDoor
namespace Go.Proofs.YtbmcngoeinginaaGreatDoor
open Go Go.RowKit
def letB (b : UInt8) : Bool := decide (97 ≤ b.toNat) && decide (b.toNat ≤ 122)
def nameB (s : List UInt8) : Bool := decide (1 ≤ s.length) && (decide (s.length ≤ 8) && s.all letB)
def resB (n : Int) : Bool := decide (1 ≤ n) && decide (n ≤ 3)
theorem isResult_any (n : Int) (w : World) : Calls Tryz.prog 49 #[.int .i64 n] w fun e w' => e = .returned (.bool (resB n)) ∧ w' = w := by
 unfold resB
 by_cases h : 1 ≤ n
 · have t : decide (1 ≤ n) = true := by simpa using h
   rw [t];go_enter Tryz.func49, Tryz.ntmps49;go_wp2
   go_ret
   exact ⟨by simp, rfl⟩
 · have t : decide (1 ≤ n) = false := by simpa using h
   rw [t];go_enter Tryz.func49, Tryz.ntmps49;go_wp2
   go_ret
   exact ⟨by simp, rfl⟩
theorem other_any (r : Int) (w : World) : Calls Tryz.prog 115 #[.int .i32 r] w fun e w' => e = .returned (.bool (decide (r < 97) || decide (122 < r))) ∧ w' = w := by
 by_cases h : r < 97
 · have t : decide (r < 97) = true := by simpa using h
   rw [t];go_enter Tryz.func115, Tryz.ntmps115;go_wp2
   go_ret
   exact ⟨by simp, rfl⟩
 · have t : decide (r < 97) = false := by simpa using h
   rw [t];go_enter Tryz.func115, Tryz.ntmps115;go_wp2
   go_ret
   exact ⟨by simp, rfl⟩
set_option maxRecDepth 100000 in
set_option maxHeartbeats 2000000 in
theorem others_any (s : List UInt8) (w : World) :
   Calls Tryz.prog 145 #[.string ⟨s.toArray⟩, .func (.func 115) #[] #[], .bool true] w fun e w' => ∃ v : Int, e = .returned (.int .i64 v) ∧ decide (0 ≤ v) = !s.all letB ∧ Below w.heap.size w w' := by
 obtain ⟨h, eh⟩ : ∃ h, h = w.heap.size := ⟨_, rfl⟩
 have EH := Lib.hid eh
 have hs : (⟨s.toArray⟩ : ByteArray).size = s.length := by simp [ByteArray.size]
 have HS := Lib.hid hs
 clear hs
 go_enter Tryz.func145, Tryz.ntmps145
 go_wp2
 have hb0 : Below w.heap.size w (w.iter ⟨s.toArray⟩ 0) := below_alloc (Below.refl _ _) _
 have hi0 := World.iter_heap w ⟨s.toArray⟩ 0
 generalize w.iter ⟨s.toArray⟩ 0 = w1 at *
 rw [← eh] at hi0
 simp only [← eh] at hb0 ⊢
 clear eh
 go_loopw [] (fun wr => ∃ q : Nat, q ≤ s.length ∧ (∀ j, j < q → letB (s[j]?.getD 0) = true) ∧ wr.heap[h]? = some (.stringIter ⟨s.toArray⟩ q) ∧ Below h w wr) (fun wr => s.length - wr.iterPos h)
 case atStart => exact ⟨0, Nat.zero_le _, fun j hj => absurd hj (Nat.not_lt_zero _), hi0, hb0⟩
 case round =>
   clear hi0 hb0;obtain ⟨q, hq, hall, hi, hb⟩ := hrel;have HALL := Lib.hid hall;clear hall
   by_cases hlt : q < s.length
   · have hlt2 : q < (⟨s.toArray⟩ : ByteArray).size := by rw [HS.out]; exact hlt
     have HN := next_any wr ⟨s.toArray⟩ h q 0 hi hlt2
     have hx : (⟨s.toArray⟩ : ByteArray)[q]'hlt2 = s[q]?.getD 0 := by rw [List.getElem?_eq_getElem hlt]; rfl
     obtain ⟨x, hxe⟩ : ∃ x, s[q]?.getD 0 = x := ⟨_, rfl⟩;rw [hxe] at hx;have HX := Lib.hid hxe;clear hxe
     -- the rune and its width
     obtain ⟨r, d, hr, hd⟩ : ∃ (r d : Nat), (Utf8.decode ⟨s.toArray⟩ q).1 = r ∧ (Utf8.decode ⟨s.toArray⟩ q).2 = d := ⟨_, _, rfl, rfl⟩
     have hcase : (letB x = true → r = x.toNat ∧ d = 1) ∧ (letB x = false → r < 97 ∨ 122 < r) := by
       by_cases ha : x.toNat < 128
       · have e := decode_ascii ⟨s.toArray⟩ q hlt2 (by rw [hx]; exact ha)
         rw [hx] at e
         have e1 : r = x.toNat := by rw [← hr, e]
         have e2 : d = 1 := by rw [← hd, e]
         refine ⟨fun _ => ⟨e1, e2⟩, fun hf => ?_⟩;unfold letB at hf;rw [Bool.and_eq_false_iff, decide_eq_false_iff_not, decide_eq_false_iff_not] at hf
         omega
       · have e := decode_high ⟨s.toArray⟩ q hlt2 (by rw [hx]; omega)
         rw [hr] at e;refine ⟨fun hf => ?_, fun _ => .inr (by omega)⟩;unfold letB at hf;rw [Bool.and_eq_true, decide_eq_true_eq, decide_eq_true_eq] at hf
         omega
     rw [hr, hd] at HN;clear hr hd hx;have hA := setIter_alters wr h ⟨s.toArray⟩ (q + d);have hl0 := bl_of hi;have hi2 := setIter_block wr h ⟨s.toArray⟩ (q + d) hl0;have hb2 := hb.trans (hA.below (Nat.le_of_lt hl0) (fun k hk => Nat.le_of_eq (Eq.symm hk)))
     have hp1 : wr.iterPos h = q := by simp [World.iterPos, hi]
     generalize setIter wr h ⟨s.toArray⟩ (q + d) = w2 at *
     have hp2 : w2.iterPos h = q + d := by simp [World.iterPos, hi2]
     have HR := Lib.hid (And.intro hi2 hb2);have HP := Lib.hid (And.intro hp1 hp2);clear hi hb hA hi2 hb2 hp1 hp2 hl0 hlt2;have HO := Lib.hid (other_any (r : Int) w2)
     cases hx : letB x with
     | true =>
       have hrd := hcase.1 hx;have hxx := hx;unfold letB at hxx;rw [Bool.and_eq_true, decide_eq_true_eq, decide_eq_true_eq] at hxx
       have t1 : (decide ((r : Int) < 97) || decide (122 < (r : Int))) = false := by rw [Bool.or_eq_false_iff, decide_eq_false_iff_not, decide_eq_false_iff_not]; omega
       rw [t1] at HO;have HD := Lib.hid hrd;have HXX := Lib.hid hx;clear hcase hrd hxx hx t1
       go_wp2_with (go_at_call 115; refine HO.out.mono ?_; rintro e w3 ⟨rfl, e0⟩; subst w3)
       go_roundw
       case rel =>
         have hd := HD.out.2;subst hd;refine ⟨q + 1, by omega, fun j hj => ?_, HR.out.1, HR.out.2⟩
         by_cases hj2 : j < q
         · exact HALL.out j hj2
         · obtain rfl : j = q := by omega
           rw [HX.out]; exact HXX.out
       case measure => have hd := HD.out.2; rw [HP.out.1, HP.out.2]; omega
     | false =>
       have hbad := hcase.2 hx
       have t1 : (decide ((r : Int) < 97) || decide (122 < (r : Int))) = true := by rw [Bool.or_eq_true, decide_eq_true_eq, decide_eq_true_eq]; omega
       rw [t1] at HO;have HXX := Lib.hid hx;clear hcase hbad hx t1
       go_wp2_with (go_at_call 115; refine HO.out.mono ?_; rintro e w3 ⟨rfl, e0⟩; subst w3)
       go_ret
       have eh := EH.out;rw [← eh];refine ⟨_, rfl, ?_, HR.out.2⟩
       have hno : s.all letB = false := by
         rw [List.all_eq_false]
         exact ⟨s[q], List.getElem_mem hlt, by have := HX.out; rw [List.getElem?_eq_getElem hlt, Option.getD_some] at this; rw [this, HXX.out]; simp⟩
       rw [hno]; simp
   · obtain rfl : q = s.length := by omega
     have HN := next_done wr s h s.length 0 hi hlt;go_wp2
     go_ret
     have eh := EH.out;rw [← eh];refine ⟨_, rfl, ?_, hb⟩
     have hyes : s.all letB = true := by
       rw [List.all_eq_true];intro x hx;obtain ⟨j, hj, rfl⟩ := List.mem_iff_getElem.1 hx;have := HALL.out j hj
       rwa [List.getElem?_eq_getElem hj, Option.getD_some] at this
     rw [hyes]; rfl
theorem hasOther_any (s : List UInt8) (w : World) :
   Calls Tryz.prog 116 #[.string ⟨s.toArray⟩, .func (.func 115) #[] #[]] w fun e w' => e = .returned (.bool (!s.all letB)) ∧ Below w.heap.size w w' := by
 have H1 := Lib.hid (fun W => others_any s W)
 go_enter Tryz.func116, Tryz.ntmps116
 go_wp2_with fail
 go_enter Tryz.func131, Tryz.ntmps131
 go_wp2_with fail
 refine (H1.out _).mono ?_
 rintro e w2 ⟨v, rfl, hv, hb⟩
 have HV := Lib.hid hv
 clear hv
 go_wp2
 go_ret
 exact ⟨by rw [HV.out]; rfl, hb⟩
theorem isName_any (s : List UInt8) (w : World) : Calls Tryz.prog 81 #[.string ⟨s.toArray⟩] w fun e w' => e = .returned (.bool (nameB s)) ∧ Below w.heap.size w w' := by
 have H1 := Lib.hid (hasOther_any s w)
 unfold nameB
 by_cases h1 : 1 ≤ s.length
 · by_cases h2 : s.length ≤ 8
   · have t1 : decide ((1 : Int) ≤ (s.length : Int)) = true := by rw [decide_eq_true_eq]; omega
     have t2 : decide ((s.length : Int) ≤ 8) = true := by rw [decide_eq_true_eq]; omega
     have t1' : decide (1 ≤ s.length) = true := by simpa using h1
     have t2' : decide (s.length ≤ 8) = true := by simpa using h2
     rw [t1', t2'];go_enter Tryz.func81, Tryz.ntmps81
     go_wp2_with (go_at_call 116; refine H1.out.mono ?_; rintro e w2 ⟨rfl, hb⟩)
     go_ret
     exact ⟨by simp, hb⟩
   · have t1 : decide ((1 : Int) ≤ (s.length : Int)) = true := by rw [decide_eq_true_eq]; omega
     have t2 : decide ((s.length : Int) ≤ 8) = false := by rw [decide_eq_false_iff_not]; omega
     have t1' : decide (1 ≤ s.length) = true := by simpa using h1
     have t2' : decide (s.length ≤ 8) = false := by simpa using h2
     rw [t1', t2'];go_enter Tryz.func81, Tryz.ntmps81;go_wp2
     go_ret
     exact ⟨by simp, Below.refl _ _⟩
 · have t1 : decide ((1 : Int) ≤ (s.length : Int)) = false := by rw [decide_eq_false_iff_not]; omega
   have t1' : decide (1 ≤ s.length) = false := by simpa using h1
   rw [t1'];go_enter Tryz.func81, Tryz.ntmps81;go_wp2
   go_ret
   exact ⟨by simp, Below.refl _ _⟩
end Go.Proofs.YtbmcngoeinginaaGreatDoor
namespace Go.Proofs.YtbmcngoeinginaaGreatDoor
open Go Go.RowKit
def idxD {α : Type} (p : α → Bool) (l : List α) : Int := match l.findIdx? p with | some i => (i : Int) | none => -1
theorem idxD_at {α : Type} {p : α → Bool} {l : List α} {i : Nat} (hi : i < l.length) (h : p l[i] = true) (hall : ∀ j (hj : j < i), p (l[j]'(by omega)) = false) : idxD p l = i := by
 unfold idxD
 rw [List.findIdx?_eq_some_iff_getElem.2 ⟨hi, h, fun j hj => by rw [hall j hj]; simp⟩]
theorem idxD_none {α : Type} {p : α → Bool} {l : List α} (hall : ∀ x ∈ l, p x = false) : idxD p l = -1 := by
 unfold idxD
 rw [List.findIdx?_eq_none_iff.2 hall]
theorem idxD_any {α : Type} (p : α → Bool) (l : List α) : decide (0 ≤ idxD p l) = l.any p := by
 unfold idxD
 cases h : l.findIdx? p with
 | some i =>
   obtain ⟨hi, hp, _⟩ := List.findIdx?_eq_some_iff_getElem.1 h;rw [List.any_eq_true.2 ⟨l[i], List.getElem_mem hi, hp⟩]
   simp
 | none =>
   have := List.findIdx?_eq_none_iff.1 h
   rw [List.any_eq_false.2 (fun x hx => by rw [this x hx]; simp)]
   rfl
theorem all_prefix {α : Type} {p : α → Bool} {l : List α} (h : ∀ j (hj : j < l.length), p (l[j]'hj) = false) : ∀ x ∈ l, p x = false := fun x hx => by
 obtain ⟨j, hj, rfl⟩ := List.mem_iff_getElem.1 hx
 exact h j hj
theorem sameName_any (n t : List UInt8) (v1 v2 : Value) (nb : Nat) (w : World) (hc : w.cell? ⟨nb, 0, none⟩ = some (.string ⟨t.toArray⟩)) :
   Calls Tryz.prog 41 #[.agg #[.string ⟨n.toArray⟩, v1, v2], .pointer (some ⟨nb, 0, none⟩)] w fun e w' => e = .returned (.bool (decide (n = t))) ∧ Below w.heap.size w w' := by
 have hc2 : (w.alloc (.cells #[.string ⟨n.toArray⟩, v1, v2] 63)).cell? ⟨nb, 0, none⟩ = some (.string ⟨t.toArray⟩) := cell_alloc_keep hc _
 have hb := below_alloc (Below.refl _ w) (.cells #[.string ⟨n.toArray⟩, v1, v2] 63)
 have hlt := World.block_lt_of_cell? _ _ hc
 go_enter Tryz.func41, Tryz.ntmps41
 go_wp2
 go_ret
 refine ⟨?_, hb⟩
 have e : (n == t) = decide (n = t) := by rw [Bool.eq_iff_iff, beq_iff_eq, decide_eq_true_eq]
 simp [e]
def findD (ks : List KindD) (s : List UInt8) : Int := idxD (fun k => decide (k.name = s)) ks
set_option maxRecDepth 100000 in
set_option maxHeartbeats 2000000 in
theorem idxKind_any (ks : List KindD) (t : List UInt8) (a : Option Addr) (c N nb : Nat) (w : World) (hl : ks.length ≤ maxLen) (hN : N ≤ w.heap.size) (hK : KindsIn N w a ks) (hc : w.cell? ⟨nb, 0, none⟩ = some (.string ⟨t.toArray⟩)) :
   Calls Tryz.prog 40 #[.slice a ks.length c, .func (.func 41) #[] #[.pointer (some ⟨nb, 0, none⟩)]] w fun e w' => e = .returned (.int .i64 (findD ks t)) ∧ Below w.heap.size w w' := by
 have hlm : ks.length ≤ 9223372036854775807 := by unfold maxLen at hl; omega
 go_enter Tryz.func40, Tryz.ntmps40
 go_wp2
 go_loopw [8] (fun v wr => ∃ q : Nat, q ≤ ks.length ∧ v = .int .i64 (q : Int) ∧ (∀ j (hj : j < q) (hj2 : j < ks.length), decide ((ks[j]'hj2).name = t) = false) ∧ Below w.heap.size w wr) (fun v _ => (ks.length - intOf v).toNat)
 case atStart => exact ⟨0, Nat.zero_le _, rfl, fun j hj => absurd hj (Nat.not_lt_zero _), Below.refl _ _⟩
 case round =>
   obtain ⟨q, hq, rfl, hall, hb⟩ := hrel;have HALL := Lib.hid hall;clear hall
   by_cases hlt : q < ks.length
   · obtain ⟨b, off, aj, cj, rfl, hbn, z0, z1, _, z2⟩ := (hK.up hN hb).at_ hlt
     have t3 : decide ((q : Int) < (ks.length : Int)) = true := by rw [decide_eq_true_eq]; omega
     have t3' : decide (q < ks.length) = true := by simpa using hlt
     have b3 : (0 : Int) ≤ (q : Int) := by omega
     have b4 : (q : Int) < (ks.length : Int) := by omega
     have y0 : IntKind.i64.wrap ((q : Int) + 1) = (q : Int) + 1 := IntWalk.i64_in _ (by omega);have HO := Lib.hid (sameName_any (ks[q]'hlt).name t (.slice aj (ks[q]'hlt).progs.length cj) (.bool (ks[q]'hlt).keep) nb wr (cell_keep hb hc));have HB := Lib.hid hb;have HQ : Hid (∀ bb, decide ((ks[q]'hlt).name = t) = bb → decide ((ks[q]'hlt).name = t) = bb) := Lib.hid (fun _ h => h);clear hb
     cases hx : decide ((ks[q]'hlt).name = t) with
     | true =>
       rw [hx] at HO;have HX : Hid (∀ h : q < ks.length, decide ((ks[q]'h).name = t) = true) := Lib.hid (fun _ => hx);clear hx;generalize (ks[q]'hlt).name = nm at *;generalize (ks[q]'hlt).progs.length = pl at *;generalize (ks[q]'hlt).keep = kp at *
       go_wp2_with fail
       refine HO.out.mono ?_;rintro e w2 ⟨rfl, hb2⟩;have HB2 := Lib.hid (below_step HB.out hb2);clear hb2;go_wp2
       go_ret
       refine ⟨?_, HB2.out⟩;rw [show findD ks t = (q : Int) from idxD_at hlt (HX.out hlt) (fun j hj => HALL.out j hj (by omega))]
       try rfl
     | false =>
       rw [hx] at HO;have HX : Hid (∀ h : q < ks.length, decide ((ks[q]'h).name = t) = false) := Lib.hid (fun _ => hx);clear hx;generalize (ks[q]'hlt).name = nm at *;generalize (ks[q]'hlt).progs.length = pl at *;generalize (ks[q]'hlt).keep = kp at *
       go_wp2_with fail
       refine HO.out.mono ?_;rintro e w2 ⟨rfl, hb2⟩;have HB2 := Lib.hid (below_step HB.out hb2);clear hb2;go_wp2
       go_roundw
       case rel =>
         refine ⟨q + 1, by omega, by go_num, fun j hj hj2 => ?_, HB2.out⟩
         by_cases hjq : j < q
         · exact HALL.out j hjq hj2
         · obtain rfl : j = q := by omega
           exact HX.out hj2
       case measure => simp [intOf]; omega
   · obtain rfl : q = ks.length := by omega
     have HB := Lib.hid hb;clear hb;go_wp2
     go_ret
     refine ⟨?_, HB.out⟩;rw [show findD ks t = -1 from idxD_none (all_prefix (p := fun k : KindD => decide (k.name = t)) (fun j hj => HALL.out j hj hj))]
     try rfl
set_option maxRecDepth 100000 in
theorem gfind_any (g : GameD) (x : GPl) (t : List UInt8) (N : Nat) (w : World) (hl : g.kinds.length ≤ maxLen) (hN : N ≤ w.heap.size) (hK : KindsIn N w x.ak g.kinds) :
   Calls Tryz.prog 16 #[.agg (g.cells x), .string ⟨t.toArray⟩] w fun e w' => e = .returned (.int .i64 (findD g.kinds t)) ∧ Below w.heap.size w w' := by
 have HI := Lib.hid (fun nb W h1 h2 hc => idxKind_any g.kinds t x.ak x.ck N nb W hl h1 h2 hc)
 unfold GameD.cells
 go_enter Tryz.func16, Tryz.ntmps16
 go_upto_region 1 with (fail)
 have hb : Below w.heap.size w ((w.alloc (.cells #[.int .i64 g.b.cells, .slice x.an g.b.next.length x.cn, .slice x.at_ g.b.turn.length x.ct, .slice x.ak g.kinds.length x.ck, .int .i64 g.rights, .bool g.must, .slice x.ac g.clauses.length x.cc, .int .i64 g.blocked, .int .i64 g.endless] 38)).alloc (.cells #[.string ⟨t.toArray⟩] 9)) := below_alloc (below_alloc (Below.refl _ _) _) _
 have hc : ((w.alloc (.cells #[.int .i64 g.b.cells, .slice x.an g.b.next.length x.cn, .slice x.at_ g.b.turn.length x.ct, .slice x.ak g.kinds.length x.ck, .int .i64 g.rights, .bool g.must, .slice x.ac g.clauses.length x.cc, .int .i64 g.blocked, .int .i64 g.endless] 38)).alloc (.cells #[.string ⟨t.toArray⟩] 9)).cell? ⟨w.heap.size + 1, 0, none⟩ = some (.string ⟨t.toArray⟩) := cell_new_at _ _ _ _ _ _ (by simp) rfl
 have H1 := Lib.hid (HI.out (w.heap.size + 1) _ (Nat.le_trans hN hb.size) (hK.up hN hb) hc)
 have HB := Lib.hid hb
 clear hb hc HI
 go_wp2_with fail
 refine H1.out.mono ?_
 rintro e w2 ⟨rfl, hb2⟩
 have HB2 := Lib.hid (below_step HB.out hb2)
 clear hb2
 go_wp2
 go_ret
 exact ⟨rfl, HB2.out⟩
end Go.Proofs.YtbmcngoeinginaaGreatDoor
namespace Go.Proofs.YtbmcngoeinginaaGreatDoor
open Go Go.RowKit
def rightB (cells : Int) (kl : Nat) (cond k n out : Int) : Bool :=
 resB out && (if cond = 1 then (decide (0 ≤ k) && decide (k < kl)) && decide (n = 0) else if cond = 2 then (decide (0 ≤ k) && decide (k < kl)) && (decide (0 ≤ n) && decide (n < cells)) else if cond = 3 then decide (k = 0) && (decide (0 ≤ n) && decide (n ≤ 64)) else false)
def clauseB (g : GameD) (c : ClauseD) : Bool := rightB g.b.cells g.kinds.length c.cond c.kind c.n c.out
set_option maxRecDepth 100000 in
set_option maxHeartbeats 3000000 in
theorem right_any (cells : Int) (kl : Nat) (cond k n out : Int) (v1 v2 v4 v5 v6 v7 v8 : Value) (ak : Option Addr) (ck : Nat) (w : World) :
   Calls Tryz.prog 84 #[.agg #[.int .i64 cells, v1, v2, .slice ak kl ck, v4, v5, v6, v7, v8], .agg #[.int .i64 cond, .int .i64 k, .int .i64 n, .int .i64 out]] w fun e w' => e = .returned (.bool (rightB cells kl cond k n out)) ∧ Below w.heap.size w w' := by
 cases h0 : decide (0 ≤ k) with
 | true =>
   cases h1 : decide (k < kl) with
   | true =>
     cases hr : resB out with
     | false =>
       rw [show rightB cells kl cond k n out = false from by unfold rightB; simp [*]]
       have HR := Lib.hid hr;clear hr;go_enter Tryz.func84, Tryz.ntmps84
       go_wp2_with (go_at_call 49; refine (isResult_any out _).mono ?_; rintro e w3 ⟨rfl, e0⟩; subst w3; rw [HR.out])
       go_ret
       exact ⟨by first | rfl | simp, below_alloc (below_alloc (Below.refl _ _) _) _⟩
     | true =>
       by_cases c1 : cond = 1
       · have c1b : (cond == 1) = true := by rw [beq_iff_eq]; exact c1
         have c1d : decide (cond = 1) = true := by rw [decide_eq_true_eq]; exact c1
         rw [show rightB cells kl cond k n out = decide (n = 0) from by unfold rightB; simp [*]]
         have HR := Lib.hid hr;clear hr;go_enter Tryz.func84, Tryz.ntmps84
         go_wp2_with (go_at_call 49; refine (isResult_any out _).mono ?_; rintro e w3 ⟨rfl, e0⟩; subst w3; rw [HR.out])
         go_ret
         exact ⟨by first | rfl | simp, below_alloc (below_alloc (Below.refl _ _) _) _⟩
       · have c1b : (cond == 1) = false := by rw [beq_eq_false_iff_ne]; exact c1
         have c1d : decide (cond = 1) = false := by rw [decide_eq_false_iff_not]; exact c1
         by_cases c2 : cond = 2
         · have c2b : (cond == 2) = true := by rw [beq_iff_eq]; exact c2
           have c2d : decide (cond = 2) = true := by rw [decide_eq_true_eq]; exact c2
           cases hn : decide (0 ≤ n) with
           | true =>
             rw [show rightB cells kl cond k n out = decide (n < cells) from by unfold rightB; simp [*]]
             have HR := Lib.hid hr;clear hr;go_enter Tryz.func84, Tryz.ntmps84
             go_wp2_with (go_at_call 49; refine (isResult_any out _).mono ?_; rintro e w3 ⟨rfl, e0⟩; subst w3; rw [HR.out])
             go_ret
             exact ⟨by first | rfl | simp, below_alloc (below_alloc (Below.refl _ _) _) _⟩
           | false =>
             rw [show rightB cells kl cond k n out = false from by unfold rightB; simp [*]]
             have HR := Lib.hid hr;clear hr;go_enter Tryz.func84, Tryz.ntmps84
             go_wp2_with (go_at_call 49; refine (isResult_any out _).mono ?_; rintro e w3 ⟨rfl, e0⟩; subst w3; rw [HR.out])
             go_ret
             exact ⟨by first | rfl | simp, below_alloc (below_alloc (Below.refl _ _) _) _⟩
         · have c2b : (cond == 2) = false := by rw [beq_eq_false_iff_ne]; exact c2
           have c2d : decide (cond = 2) = false := by rw [decide_eq_false_iff_not]; exact c2
           by_cases c3 : cond = 3
           · have c3b : (cond == 3) = true := by rw [beq_iff_eq]; exact c3
             have c3d : decide (cond = 3) = true := by rw [decide_eq_true_eq]; exact c3
             by_cases hk : k = 0
             · have hkb : (k == 0) = true := by rw [beq_iff_eq]; exact hk
               have hkd : decide (k = 0) = true := by rw [decide_eq_true_eq]; exact hk
               cases hn : decide (0 ≤ n) with
               | true =>
                 rw [show rightB cells kl cond k n out = decide (n ≤ 64) from by unfold rightB; simp [*]]
                 have HR := Lib.hid hr;clear hr;go_enter Tryz.func84, Tryz.ntmps84
                 go_wp2_with (go_at_call 49; refine (isResult_any out _).mono ?_; rintro e w3 ⟨rfl, e0⟩; subst w3; rw [HR.out])
                 go_ret
                 exact ⟨by first | rfl | simp, below_alloc (below_alloc (Below.refl _ _) _) _⟩
               | false =>
                 rw [show rightB cells kl cond k n out = false from by unfold rightB; simp [*]]
                 have HR := Lib.hid hr;clear hr;go_enter Tryz.func84, Tryz.ntmps84
                 go_wp2_with (go_at_call 49; refine (isResult_any out _).mono ?_; rintro e w3 ⟨rfl, e0⟩; subst w3; rw [HR.out])
                 go_ret
                 exact ⟨by first | rfl | simp, below_alloc (below_alloc (Below.refl _ _) _) _⟩
             · have hkb : (k == 0) = false := by rw [beq_eq_false_iff_ne]; exact hk
               have hkd : decide (k = 0) = false := by rw [decide_eq_false_iff_not]; exact hk
               rw [show rightB cells kl cond k n out = false from by unfold rightB; simp [*]]
               have HR := Lib.hid hr;clear hr;go_enter Tryz.func84, Tryz.ntmps84
               go_wp2_with (go_at_call 49; refine (isResult_any out _).mono ?_; rintro e w3 ⟨rfl, e0⟩; subst w3; rw [HR.out])
               go_ret
               exact ⟨by first | rfl | simp, below_alloc (below_alloc (Below.refl _ _) _) _⟩
           · have c3b : (cond == 3) = false := by rw [beq_eq_false_iff_ne]; exact c3
             have c3d : decide (cond = 3) = false := by rw [decide_eq_false_iff_not]; exact c3
             rw [show rightB cells kl cond k n out = false from by unfold rightB; simp [*]]
             have HR := Lib.hid hr;clear hr;go_enter Tryz.func84, Tryz.ntmps84
             go_wp2_with (go_at_call 49; refine (isResult_any out _).mono ?_; rintro e w3 ⟨rfl, e0⟩; subst w3; rw [HR.out])
             go_ret
             exact ⟨by first | rfl | simp, below_alloc (below_alloc (Below.refl _ _) _) _⟩
   | false =>
     cases hr : resB out with
     | false =>
       rw [show rightB cells kl cond k n out = false from by unfold rightB; simp [*]]
       have HR := Lib.hid hr;clear hr;go_enter Tryz.func84, Tryz.ntmps84
       go_wp2_with (go_at_call 49; refine (isResult_any out _).mono ?_; rintro e w3 ⟨rfl, e0⟩; subst w3; rw [HR.out])
       go_ret
       exact ⟨by first | rfl | simp, below_alloc (below_alloc (Below.refl _ _) _) _⟩
     | true =>
       by_cases c1 : cond = 1
       · have c1b : (cond == 1) = true := by rw [beq_iff_eq]; exact c1
         have c1d : decide (cond = 1) = true := by rw [decide_eq_true_eq]; exact c1
         rw [show rightB cells kl cond k n out = false from by unfold rightB; simp [*]]
         have HR := Lib.hid hr;clear hr;go_enter Tryz.func84, Tryz.ntmps84
         go_wp2_with (go_at_call 49; refine (isResult_any out _).mono ?_; rintro e w3 ⟨rfl, e0⟩; subst w3; rw [HR.out])
         go_ret
         exact ⟨by first | rfl | simp, below_alloc (below_alloc (Below.refl _ _) _) _⟩
       · have c1b : (cond == 1) = false := by rw [beq_eq_false_iff_ne]; exact c1
         have c1d : decide (cond = 1) = false := by rw [decide_eq_false_iff_not]; exact c1
         by_cases c2 : cond = 2
         · have c2b : (cond == 2) = true := by rw [beq_iff_eq]; exact c2
           have c2d : decide (cond = 2) = true := by rw [decide_eq_true_eq]; exact c2
           rw [show rightB cells kl cond k n out = false from by unfold rightB; simp [*]]
           have HR := Lib.hid hr;clear hr;go_enter Tryz.func84, Tryz.ntmps84
           go_wp2_with (go_at_call 49; refine (isResult_any out _).mono ?_; rintro e w3 ⟨rfl, e0⟩; subst w3; rw [HR.out])
           go_ret
           exact ⟨by first | rfl | simp, below_alloc (below_alloc (Below.refl _ _) _) _⟩
         · have c2b : (cond == 2) = false := by rw [beq_eq_false_iff_ne]; exact c2
           have c2d : decide (cond = 2) = false := by rw [decide_eq_false_iff_not]; exact c2
           by_cases c3 : cond = 3
           · have c3b : (cond == 3) = true := by rw [beq_iff_eq]; exact c3
             have c3d : decide (cond = 3) = true := by rw [decide_eq_true_eq]; exact c3
             by_cases hk : k = 0
             · have hkb : (k == 0) = true := by rw [beq_iff_eq]; exact hk
               have hkd : decide (k = 0) = true := by rw [decide_eq_true_eq]; exact hk
               cases hn : decide (0 ≤ n) with
               | true =>
                 rw [show rightB cells kl cond k n out = decide (n ≤ 64) from by unfold rightB; simp [*]]
                 have HR := Lib.hid hr;clear hr;go_enter Tryz.func84, Tryz.ntmps84
                 go_wp2_with (go_at_call 49; refine (isResult_any out _).mono ?_; rintro e w3 ⟨rfl, e0⟩; subst w3; rw [HR.out])
                 go_ret
                 exact ⟨by first | rfl | simp, below_alloc (below_alloc (Below.refl _ _) _) _⟩
               | false =>
                 rw [show rightB cells kl cond k n out = false from by unfold rightB; simp [*]]
                 have HR := Lib.hid hr;clear hr;go_enter Tryz.func84, Tryz.ntmps84
                 go_wp2_with (go_at_call 49; refine (isResult_any out _).mono ?_; rintro e w3 ⟨rfl, e0⟩; subst w3; rw [HR.out])
                 go_ret
                 exact ⟨by first | rfl | simp, below_alloc (below_alloc (Below.refl _ _) _) _⟩
             · have hkb : (k == 0) = false := by rw [beq_eq_false_iff_ne]; exact hk
               have hkd : decide (k = 0) = false := by rw [decide_eq_false_iff_not]; exact hk
               rw [show rightB cells kl cond k n out = false from by unfold rightB; simp [*]]
               have HR := Lib.hid hr;clear hr;go_enter Tryz.func84, Tryz.ntmps84
               go_wp2_with (go_at_call 49; refine (isResult_any out _).mono ?_; rintro e w3 ⟨rfl, e0⟩; subst w3; rw [HR.out])
               go_ret
               exact ⟨by first | rfl | simp, below_alloc (below_alloc (Below.refl _ _) _) _⟩
           · have c3b : (cond == 3) = false := by rw [beq_eq_false_iff_ne]; exact c3
             have c3d : decide (cond = 3) = false := by rw [decide_eq_false_iff_not]; exact c3
             rw [show rightB cells kl cond k n out = false from by unfold rightB; simp [*]]
             have HR := Lib.hid hr;clear hr;go_enter Tryz.func84, Tryz.ntmps84
             go_wp2_with (go_at_call 49; refine (isResult_any out _).mono ?_; rintro e w3 ⟨rfl, e0⟩; subst w3; rw [HR.out])
             go_ret
             exact ⟨by first | rfl | simp, below_alloc (below_alloc (Below.refl _ _) _) _⟩
 | false =>
   cases hr : resB out with
   | false =>
     rw [show rightB cells kl cond k n out = false from by unfold rightB; simp [*]]
     have HR := Lib.hid hr;clear hr;go_enter Tryz.func84, Tryz.ntmps84
     go_wp2_with (go_at_call 49; refine (isResult_any out _).mono ?_; rintro e w3 ⟨rfl, e0⟩; subst w3; rw [HR.out])
     go_ret
     exact ⟨by first | rfl | simp, below_alloc (below_alloc (Below.refl _ _) _) _⟩
   | true =>
     by_cases c1 : cond = 1
     · have c1b : (cond == 1) = true := by rw [beq_iff_eq]; exact c1
       have c1d : decide (cond = 1) = true := by rw [decide_eq_true_eq]; exact c1
       rw [show rightB cells kl cond k n out = false from by unfold rightB; simp [*]]
       have HR := Lib.hid hr;clear hr;go_enter Tryz.func84, Tryz.ntmps84
       go_wp2_with (go_at_call 49; refine (isResult_any out _).mono ?_; rintro e w3 ⟨rfl, e0⟩; subst w3; rw [HR.out])
       go_ret
       exact ⟨by first | rfl | simp, below_alloc (below_alloc (Below.refl _ _) _) _⟩
     · have c1b : (cond == 1) = false := by rw [beq_eq_false_iff_ne]; exact c1
       have c1d : decide (cond = 1) = false := by rw [decide_eq_false_iff_not]; exact c1
       by_cases c2 : cond = 2
       · have c2b : (cond == 2) = true := by rw [beq_iff_eq]; exact c2
         have c2d : decide (cond = 2) = true := by rw [decide_eq_true_eq]; exact c2
         rw [show rightB cells kl cond k n out = false from by unfold rightB; simp [*]]
         have HR := Lib.hid hr;clear hr;go_enter Tryz.func84, Tryz.ntmps84
         go_wp2_with (go_at_call 49; refine (isResult_any out _).mono ?_; rintro e w3 ⟨rfl, e0⟩; subst w3; rw [HR.out])
         go_ret
         exact ⟨by first | rfl | simp, below_alloc (below_alloc (Below.refl _ _) _) _⟩
       · have c2b : (cond == 2) = false := by rw [beq_eq_false_iff_ne]; exact c2
         have c2d : decide (cond = 2) = false := by rw [decide_eq_false_iff_not]; exact c2
         by_cases c3 : cond = 3
         · have c3b : (cond == 3) = true := by rw [beq_iff_eq]; exact c3
           have c3d : decide (cond = 3) = true := by rw [decide_eq_true_eq]; exact c3
           by_cases hk : k = 0
           · have hkb : (k == 0) = true := by rw [beq_iff_eq]; exact hk
             have hkd : decide (k = 0) = true := by rw [decide_eq_true_eq]; exact hk
             cases hn : decide (0 ≤ n) with
             | true =>
               rw [show rightB cells kl cond k n out = decide (n ≤ 64) from by unfold rightB; simp [*]]
               have HR := Lib.hid hr;clear hr;go_enter Tryz.func84, Tryz.ntmps84
               go_wp2_with (go_at_call 49; refine (isResult_any out _).mono ?_; rintro e w3 ⟨rfl, e0⟩; subst w3; rw [HR.out])
               go_ret
               exact ⟨by first | rfl | simp, below_alloc (below_alloc (Below.refl _ _) _) _⟩
             | false =>
               rw [show rightB cells kl cond k n out = false from by unfold rightB; simp [*]]
               have HR := Lib.hid hr;clear hr;go_enter Tryz.func84, Tryz.ntmps84
               go_wp2_with (go_at_call 49; refine (isResult_any out _).mono ?_; rintro e w3 ⟨rfl, e0⟩; subst w3; rw [HR.out])
               go_ret
               exact ⟨by first | rfl | simp, below_alloc (below_alloc (Below.refl _ _) _) _⟩
           · have hkb : (k == 0) = false := by rw [beq_eq_false_iff_ne]; exact hk
             have hkd : decide (k = 0) = false := by rw [decide_eq_false_iff_not]; exact hk
             rw [show rightB cells kl cond k n out = false from by unfold rightB; simp [*]]
             have HR := Lib.hid hr;clear hr;go_enter Tryz.func84, Tryz.ntmps84
             go_wp2_with (go_at_call 49; refine (isResult_any out _).mono ?_; rintro e w3 ⟨rfl, e0⟩; subst w3; rw [HR.out])
             go_ret
             exact ⟨by first | rfl | simp, below_alloc (below_alloc (Below.refl _ _) _) _⟩
         · have c3b : (cond == 3) = false := by rw [beq_eq_false_iff_ne]; exact c3
           have c3d : decide (cond = 3) = false := by rw [decide_eq_false_iff_not]; exact c3
           rw [show rightB cells kl cond k n out = false from by unfold rightB; simp [*]]
           have HR := Lib.hid hr;clear hr;go_enter Tryz.func84, Tryz.ntmps84
           go_wp2_with (go_at_call 49; refine (isResult_any out _).mono ?_; rintro e w3 ⟨rfl, e0⟩; subst w3; rw [HR.out])
           go_ret
           exact ⟨by first | rfl | simp, below_alloc (below_alloc (Below.refl _ _) _) _⟩
end Go.Proofs.YtbmcngoeinginaaGreatDoor
namespace Go.Proofs.YtbmcngoeinginaaGreatDoor
open Go Go.RowKit
def wrongP (g : GameD) (p : List (Int × Int)) : Bool := !validP p (g.b.next.length : Int) (g.kinds.length : Int) g.rights
theorem wrongProg_any (g : GameD) (x : GPl) (p : List (Int × Int)) (aj : Option Addr) (cj gb N : Nat) (w : World) (hbox : w.heap[gb]? = some (.cells #[.int .i64 g.b.cells, .slice x.an g.b.next.length x.cn, .slice x.at_ g.b.turn.length x.ct, .slice x.ak g.kinds.length x.ck, .int .i64 g.rights, .bool g.must, .slice x.ac g.clauses.length x.cc, .int .i64 g.blocked, .int .i64 g.endless] 38 (0, 0))) (hN : N ≤ w.heap.size) (hP : Prg N w aj p) (hS : SignsIn w) :
   Calls Tryz.prog 117 #[.slice aj p.length cj, .pointer (some ⟨gb, 0, none⟩)] w fun e w' => e = .returned (.bool (wrongP g p)) ∧ Below w.heap.size w w' := by
 have HV := Lib.hid (valid_any p aj cj (g.b.next.length : Int) (g.kinds.length : Int) g.rights N w hN hP hS)
 unfold wrongP
 have g0 := bx_cell hbox 0 rfl
 have g1 := bx_cell hbox 1 rfl
 have g2 := bx_cell hbox 2 rfl
 have g3 := bx_cell hbox 3 rfl
 have g4 := bx_cell hbox 4 rfl
 have g5 := bx_cell hbox 5 rfl
 have g6 := bx_cell hbox 6 rfl
 have g7 := bx_cell hbox 7 rfl
 have g8 := bx_cell hbox 8 rfl
 go_enter Tryz.func117, Tryz.ntmps117
 go_wp2_with fail
 refine HV.out.mono ?_
 rintro e w2 ⟨rfl, hb⟩
 clear g0 g1 g2 g3 g4 g5 g6 g7 g8
 go_wp2
 go_ret
 exact ⟨rfl, hb⟩
def wrongC (g : GameD) (c : ClauseD) : Bool := !clauseB g c
theorem wrongClause_any (g : GameD) (x : GPl) (c : ClauseD) (gb : Nat) (w : World) (hbox : w.heap[gb]? = some (.cells #[.int .i64 g.b.cells, .slice x.an g.b.next.length x.cn, .slice x.at_ g.b.turn.length x.ct, .slice x.ak g.kinds.length x.ck, .int .i64 g.rights, .bool g.must, .slice x.ac g.clauses.length x.cc, .int .i64 g.blocked, .int .i64 g.endless] 38 (0, 0))) :
   Calls Tryz.prog 83 #[.agg #[.int .i64 c.cond, .int .i64 c.kind, .int .i64 c.n, .int .i64 c.out], .pointer (some ⟨gb, 0, none⟩)] w fun e w' => e = .returned (.bool (wrongC g c)) ∧ Below w.heap.size w w' := by
 have hb0 := below_alloc (Below.refl _ w) (.cells #[.int .i64 c.cond, .int .i64 c.kind, .int .i64 c.n, .int .i64 c.out] 70)
 have hbox2 := (hb0.block _ (bx_lt hbox)).trans hbox
 have HV := Lib.hid (right_any g.b.cells g.kinds.length c.cond c.kind c.n c.out (.slice x.an g.b.next.length x.cn) (.slice x.at_ g.b.turn.length x.ct) (.int .i64 g.rights) (.bool g.must) (.slice x.ac g.clauses.length x.cc) (.int .i64 g.blocked) (.int .i64 g.endless) x.ak x.ck (w.alloc (.cells #[.int .i64 c.cond, .int .i64 c.kind, .int .i64 c.n, .int .i64 c.out] 70)))
 unfold wrongC clauseB
 have g0 := bx_cell hbox2 0 rfl
 have g1 := bx_cell hbox2 1 rfl
 have g2 := bx_cell hbox2 2 rfl
 have g3 := bx_cell hbox2 3 rfl
 have g4 := bx_cell hbox2 4 rfl
 have g5 := bx_cell hbox2 5 rfl
 have g6 := bx_cell hbox2 6 rfl
 have g7 := bx_cell hbox2 7 rfl
 have g8 := bx_cell hbox2 8 rfl
 have HB := Lib.hid hb0
 clear hb0 hbox2
 go_enter Tryz.func83, Tryz.ntmps83
 go_wp2_with fail
 refine HV.out.mono ?_
 rintro e w2 ⟨rfl, hb⟩
 clear g0 g1 g2 g3 g4 g5 g6 g7 g8
 have HB2 := Lib.hid (below_step HB.out hb)
 clear hb
 go_wp2
 go_ret
 exact ⟨rfl, HB2.out⟩
set_option maxRecDepth 100000 in
set_option maxHeartbeats 2000000 in
theorem idxProg_any (g : GameD) (x : GPl) (l : List (List (Int × Int))) (a : Option Addr) (c N gb : Nat) (w : World) (hl : l.length ≤ maxLen) (hN : N ≤ w.heap.size) (hK : ProgsIn N w a l) (hbox : w.heap[gb]? = some (.cells #[.int .i64 g.b.cells, .slice x.an g.b.next.length x.cn, .slice x.at_ g.b.turn.length x.ct, .slice x.ak g.kinds.length x.ck, .int .i64 g.rights, .bool g.must, .slice x.ac g.clauses.length x.cc, .int .i64 g.blocked, .int .i64 g.endless] 38 (0, 0))) (hS : SignsIn w) :
   Calls Tryz.prog 132 #[.slice a l.length c, .func (.func 117) #[] #[.pointer (some ⟨gb, 0, none⟩)]] w fun e w' => e = .returned (.int .i64 (idxD (wrongP g) l)) ∧ Below w.heap.size w w' := by
 have hlm : l.length ≤ 9223372036854775807 := by unfold maxLen at hl; omega
 have HBX := Lib.hid (fun W (h : Below w.heap.size w W) => (h.block _ (bx_lt hbox)).trans hbox)
 clear hbox
 go_enter Tryz.func132, Tryz.ntmps132
 go_wp2
 go_loopw [8] (fun v wr => ∃ q : Nat, q ≤ l.length ∧ v = .int .i64 (q : Int) ∧ (∀ j (hj : j < q) (hj2 : j < l.length), wrongP g (l[j]'hj2) = false) ∧ Below w.heap.size w wr) (fun v _ => (l.length - intOf v).toNat)
 case atStart => exact ⟨0, Nat.zero_le _, rfl, fun j hj => absurd hj (Nat.not_lt_zero _), Below.refl _ _⟩
 case round =>
   obtain ⟨q, hq, rfl, hall, hb⟩ := hrel;have HALL := Lib.hid hall;clear hall
   by_cases hlt : q < l.length
   · obtain ⟨b, off, aj, cj, rfl, hbn, z0, z1⟩ := (hK.up hN hb).at_ hlt
     have t3 : decide ((q : Int) < (l.length : Int)) = true := by rw [decide_eq_true_eq]; omega
     have t3' : decide (q < l.length) = true := by simpa using hlt
     have b3 : (0 : Int) ≤ (q : Int) := by omega
     have b4 : (q : Int) < (l.length : Int) := by omega
     have y0 : IntKind.i64.wrap ((q : Int) + 1) = (q : Int) + 1 := IntWalk.i64_in _ (by omega);have HO := Lib.hid (wrongProg_any g x (l[q]'hlt) aj cj gb N wr (HBX.out wr hb) (Nat.le_trans hN hb.size) z1 (hS.up hb));have HB := Lib.hid hb;clear hb
     cases hx : wrongP g (l[q]'hlt) with
     | true =>
       rw [hx] at HO;have HX : Hid (∀ h : q < l.length, wrongP g (l[q]'h) = true) := Lib.hid (fun _ => hx);clear hx;generalize (l[q]'hlt).length = pl at *;clear z1
       go_wp2_with fail
       refine HO.out.mono ?_;rintro e w2 ⟨rfl, hb2⟩;have HB2 := Lib.hid (below_step HB.out hb2);clear hb2;go_wp2
       go_ret
       refine ⟨?_, HB2.out⟩;rw [show idxD (wrongP g) l = (q : Int) from idxD_at hlt (HX.out hlt) (fun j hj => HALL.out j hj (by omega))]
       try rfl
     | false =>
       rw [hx] at HO;have HX : Hid (∀ h : q < l.length, wrongP g (l[q]'h) = false) := Lib.hid (fun _ => hx);clear hx;generalize (l[q]'hlt).length = pl at *;clear z1
       go_wp2_with fail
       refine HO.out.mono ?_;rintro e w2 ⟨rfl, hb2⟩;have HB2 := Lib.hid (below_step HB.out hb2);clear hb2;go_wp2
       go_roundw
       case rel =>
         refine ⟨q + 1, by omega, by go_num, fun j hj hj2 => ?_, HB2.out⟩
         by_cases hjq : j < q
         · exact HALL.out j hjq hj2
         · obtain rfl : j = q := by omega
           exact HX.out hj2
       case measure => simp [intOf]; omega
   · obtain rfl : q = l.length := by omega
     have HB := Lib.hid hb;clear hb;go_wp2
     go_ret
     refine ⟨?_, HB.out⟩;rw [show idxD (wrongP g) l = -1 from idxD_none (all_prefix (p := wrongP g) (fun j hj => HALL.out j hj hj))]
     try rfl
set_option maxRecDepth 100000 in
set_option maxHeartbeats 2000000 in
theorem idxClause_any (g : GameD) (x : GPl) (l : List ClauseD) (a : Option Addr) (c N gb : Nat) (w : World) (hl : l.length ≤ maxLen) (hN : N ≤ w.heap.size) (hK : ClausesIn N w a l) (hbox : w.heap[gb]? = some (.cells #[.int .i64 g.b.cells, .slice x.an g.b.next.length x.cn, .slice x.at_ g.b.turn.length x.ct, .slice x.ak g.kinds.length x.ck, .int .i64 g.rights, .bool g.must, .slice x.ac g.clauses.length x.cc, .int .i64 g.blocked, .int .i64 g.endless] 38 (0, 0))) :
   Calls Tryz.prog 119 #[.slice a l.length c, .func (.func 83) #[] #[.pointer (some ⟨gb, 0, none⟩)]] w fun e w' => e = .returned (.int .i64 (idxD (wrongC g) l)) ∧ Below w.heap.size w w' := by
 have hlm : l.length ≤ 9223372036854775807 := by unfold maxLen at hl; omega
 have HBX := Lib.hid (fun W (h : Below w.heap.size w W) => (h.block _ (bx_lt hbox)).trans hbox)
 clear hbox
 go_enter Tryz.func119, Tryz.ntmps119
 go_wp2
 go_loopw [8] (fun v wr => ∃ q : Nat, q ≤ l.length ∧ v = .int .i64 (q : Int) ∧ (∀ j (hj : j < q) (hj2 : j < l.length), wrongC g (l[j]'hj2) = false) ∧ Below w.heap.size w wr) (fun v _ => (l.length - intOf v).toNat)
 case atStart => exact ⟨0, Nat.zero_le _, rfl, fun j hj => absurd hj (Nat.not_lt_zero _), Below.refl _ _⟩
 case round =>
   obtain ⟨q, hq, rfl, hall, hb⟩ := hrel;have HALL := Lib.hid hall;clear hall
   by_cases hlt : q < l.length
   · obtain ⟨b, off, rfl, hbn, z0, z1, z2, z3⟩ := (hK.up hN hb).at_ hlt
     have t3 : decide ((q : Int) < (l.length : Int)) = true := by rw [decide_eq_true_eq]; omega
     have t3' : decide (q < l.length) = true := by simpa using hlt
     have b3 : (0 : Int) ≤ (q : Int) := by omega
     have b4 : (q : Int) < (l.length : Int) := by omega
     have y0 : IntKind.i64.wrap ((q : Int) + 1) = (q : Int) + 1 := IntWalk.i64_in _ (by omega);have HO := Lib.hid (wrongClause_any g x (l[q]'hlt) gb wr (HBX.out wr hb));have HB := Lib.hid hb;clear hb
     cases hx : wrongC g (l[q]'hlt) with
     | true =>
       rw [hx] at HO;have HX : Hid (∀ h : q < l.length, wrongC g (l[q]'h) = true) := Lib.hid (fun _ => hx);clear hx;generalize (l[q]'hlt).cond = f0 at *;generalize (l[q]'hlt).kind = f1 at *;generalize (l[q]'hlt).n = f2 at *;generalize (l[q]'hlt).out = f3 at *
       go_wp2_with fail
       refine HO.out.mono ?_;rintro e w2 ⟨rfl, hb2⟩;have HB2 := Lib.hid (below_step HB.out hb2);clear hb2;go_wp2
       go_ret
       refine ⟨?_, HB2.out⟩;rw [show idxD (wrongC g) l = (q : Int) from idxD_at hlt (HX.out hlt) (fun j hj => HALL.out j hj (by omega))]
       try rfl
     | false =>
       rw [hx] at HO;have HX : Hid (∀ h : q < l.length, wrongC g (l[q]'h) = false) := Lib.hid (fun _ => hx);clear hx;generalize (l[q]'hlt).cond = f0 at *;generalize (l[q]'hlt).kind = f1 at *;generalize (l[q]'hlt).n = f2 at *;generalize (l[q]'hlt).out = f3 at *
       go_wp2_with fail
       refine HO.out.mono ?_;rintro e w2 ⟨rfl, hb2⟩;have HB2 := Lib.hid (below_step HB.out hb2);clear hb2;go_wp2
       go_roundw
       case rel =>
         refine ⟨q + 1, by omega, by go_num, fun j hj hj2 => ?_, HB2.out⟩
         by_cases hjq : j < q
         · exact HALL.out j hjq hj2
         · obtain rfl : j = q := by omega
           exact HX.out hj2
       case measure => simp [intOf]; omega
   · obtain rfl : q = l.length := by omega
     have HB := Lib.hid hb;clear hb;go_wp2
     go_ret
     refine ⟨?_, HB.out⟩;rw [show idxD (wrongC g) l = -1 from idxD_none (all_prefix (p := wrongC g) (fun j hj => HALL.out j hj hj))]
     try rfl
theorem hasProg_any (g : GameD) (x : GPl) (l : List (List (Int × Int))) (a : Option Addr) (c N gb : Nat) (w : World) (hl : l.length ≤ maxLen) (hN : N ≤ w.heap.size) (hK : ProgsIn N w a l) (hbox : w.heap[gb]? = some (.cells #[.int .i64 g.b.cells, .slice x.an g.b.next.length x.cn, .slice x.at_ g.b.turn.length x.ct, .slice x.ak g.kinds.length x.ck, .int .i64 g.rights, .bool g.must, .slice x.ac g.clauses.length x.cc, .int .i64 g.blocked, .int .i64 g.endless] 38 (0, 0))) (hS : SignsIn w) :
   Calls Tryz.prog 118 #[.slice a l.length c, .func (.func 117) #[] #[.pointer (some ⟨gb, 0, none⟩)]] w fun e w' => e = .returned (.bool (l.any (wrongP g))) ∧ Below w.heap.size w w' := by
 have H1 := Lib.hid (idxProg_any g x l a c N gb w hl hN hK hbox hS)
 rw [← idxD_any]
 clear hbox
 generalize idxD (wrongP g) l = v at *
 go_enter Tryz.func118, Tryz.ntmps118
 go_wp2_with fail
 refine H1.out.mono ?_
 rintro e w2 ⟨rfl, hb⟩
 go_wp2
 go_ret
 exact ⟨rfl, hb⟩
theorem hasClause_any (g : GameD) (x : GPl) (l : List ClauseD) (a : Option Addr) (c N gb : Nat) (w : World) (hl : l.length ≤ maxLen) (hN : N ≤ w.heap.size) (hK : ClausesIn N w a l) (hbox : w.heap[gb]? = some (.cells #[.int .i64 g.b.cells, .slice x.an g.b.next.length x.cn, .slice x.at_ g.b.turn.length x.ct, .slice x.ak g.kinds.length x.ck, .int .i64 g.rights, .bool g.must, .slice x.ac g.clauses.length x.cc, .int .i64 g.blocked, .int .i64 g.endless] 38 (0, 0))) :
   Calls Tryz.prog 85 #[.slice a l.length c, .func (.func 83) #[] #[.pointer (some ⟨gb, 0, none⟩)]] w fun e w' => e = .returned (.bool (l.any (wrongC g))) ∧ Below w.heap.size w w' := by
 have H1 := Lib.hid (idxClause_any g x l a c N gb w hl hN hK hbox)
 rw [← idxD_any]
 clear hbox
 generalize idxD (wrongC g) l = v at *
 go_enter Tryz.func85, Tryz.ntmps85
 go_wp2_with fail
 refine H1.out.mono ?_
 rintro e w2 ⟨rfl, hb⟩
 go_wp2
 go_ret
 exact ⟨rfl, hb⟩
end Go.Proofs.YtbmcngoeinginaaGreatDoor
namespace Go.Proofs.YtbmcngoeinginaaGreatDoor
open Go Go.RowKit
def progsB (g : GameD) (ps : List (List (Int × Int))) : Bool := decide (ps.length ≤ 8) && !ps.any (wrongP g)
def clausesB (g : GameD) : Bool := decide (g.clauses.length ≤ 6) && !g.clauses.any (wrongC g)
def kindB (g : GameD) (i : Nat) (k : KindD) : Bool := nameB k.name && (decide (findD g.kinds k.name = (i : Int)) && progsB g k.progs)
def kindAt (g : GameD) (i : Nat) : Bool := kindB g i (g.kinds[i]?.getD ⟨[], [], false⟩)
def kindsB (g : GameD) : Bool := decide (1 ≤ g.kinds.length) && (decide (g.kinds.length ≤ 6) && (List.range g.kinds.length).all (kindAt g))
def validG (g : GameD) : Bool := validS g.b && (kindsB g && (decide (0 ≤ g.rights) && (decide (g.rights ≤ 4) && (clausesB g && (resB g.blocked && resB g.endless)))))
theorem range_no {n q : Nat} {p : Nat → Bool} (h : q < n) (hp : p q = false) : (List.range n).all p = false := by
 rw [List.all_eq_false]
 exact ⟨q, List.mem_range.2 h, by rw [hp]; simp⟩
theorem validProgs_any (g : GameD) (x : GPl) (ps : List (List (Int × Int))) (a : Option Addr) (c N : Nat) (w : World) (hN : N ≤ w.heap.size) (hP : ProgsIn N w a ps) (hS : SignsIn w) :
   Calls Tryz.prog 82 #[.agg #[.int .i64 g.b.cells, .slice x.an g.b.next.length x.cn, .slice x.at_ g.b.turn.length x.ct, .slice x.ak g.kinds.length x.ck, .int .i64 g.rights, .bool g.must, .slice x.ac g.clauses.length x.cc, .int .i64 g.blocked, .int .i64 g.endless], .slice a ps.length c] w fun e w' => e = .returned (.bool (progsB g ps)) ∧ Below w.heap.size w w' := by
 have hb := below_alloc (Below.refl _ w) (.cells #[.int .i64 g.b.cells, .slice x.an g.b.next.length x.cn, .slice x.at_ g.b.turn.length x.ct, .slice x.ak g.kinds.length x.ck, .int .i64 g.rights, .bool g.must, .slice x.ac g.clauses.length x.cc, .int .i64 g.blocked, .int .i64 g.endless] 38)
 have hbox : (w.alloc (.cells #[.int .i64 g.b.cells, .slice x.an g.b.next.length x.cn, .slice x.at_ g.b.turn.length x.ct, .slice x.ak g.kinds.length x.ck, .int .i64 g.rights, .bool g.must, .slice x.ac g.clauses.length x.cc, .int .i64 g.blocked, .int .i64 g.endless] 38)).heap[w.heap.size]? = some (.cells #[.int .i64 g.b.cells, .slice x.an g.b.next.length x.cn, .slice x.at_ g.b.turn.length x.ct, .slice x.ak g.kinds.length x.ck, .int .i64 g.rights, .bool g.must, .slice x.ac g.clauses.length x.cc, .int .i64 g.blocked, .int .i64 g.endless] 38 (0, 0)) := World.alloc_heap_new _ _
 unfold progsB
 by_cases h : ps.length ≤ 8
 · have t1 : decide ((ps.length : Int) ≤ 8) = true := by rw [decide_eq_true_eq]; omega
   have t2 : decide (ps.length ≤ 8) = true := by simpa using h
   have H1 := Lib.hid (hasProg_any g x ps a c N w.heap.size (w.alloc (.cells #[.int .i64 g.b.cells, .slice x.an g.b.next.length x.cn, .slice x.at_ g.b.turn.length x.ct, .slice x.ak g.kinds.length x.ck, .int .i64 g.rights, .bool g.must, .slice x.ac g.clauses.length x.cc, .int .i64 g.blocked, .int .i64 g.endless] 38)) (by unfold maxLen; omega) (Nat.le_trans hN hb.size) (hP.up hN hb) hbox (hS.up hb))
   have HB := Lib.hid hb;clear hb hbox;rw [t2];go_enter Tryz.func82, Tryz.ntmps82
   go_wp2_with fail
   refine H1.out.mono ?_;rintro e w2 ⟨rfl, hb2⟩;have HB2 := Lib.hid (below_step HB.out hb2);clear hb2;go_wp2
   go_ret
   exact ⟨by simp, HB2.out⟩
 · have t1 : decide ((ps.length : Int) ≤ 8) = false := by rw [decide_eq_false_iff_not]; omega
   have t2 : decide (ps.length ≤ 8) = false := by simpa using h
   rw [t2];go_enter Tryz.func82, Tryz.ntmps82;go_wp2
   go_ret
   exact ⟨by simp, hb⟩
theorem validClauses_any (g : GameD) (x : GPl) (N : Nat) (w : World) (hN : N ≤ w.heap.size) (hC : ClausesIn N w x.ac g.clauses) :
   Calls Tryz.prog 48 #[.agg #[.int .i64 g.b.cells, .slice x.an g.b.next.length x.cn, .slice x.at_ g.b.turn.length x.ct, .slice x.ak g.kinds.length x.ck, .int .i64 g.rights, .bool g.must, .slice x.ac g.clauses.length x.cc, .int .i64 g.blocked, .int .i64 g.endless]] w fun e w' => e = .returned (.bool (clausesB g)) ∧ Below w.heap.size w w' := by
 have hb := below_alloc (Below.refl _ w) (.cells #[.int .i64 g.b.cells, .slice x.an g.b.next.length x.cn, .slice x.at_ g.b.turn.length x.ct, .slice x.ak g.kinds.length x.ck, .int .i64 g.rights, .bool g.must, .slice x.ac g.clauses.length x.cc, .int .i64 g.blocked, .int .i64 g.endless] 38)
 have hbox : (w.alloc (.cells #[.int .i64 g.b.cells, .slice x.an g.b.next.length x.cn, .slice x.at_ g.b.turn.length x.ct, .slice x.ak g.kinds.length x.ck, .int .i64 g.rights, .bool g.must, .slice x.ac g.clauses.length x.cc, .int .i64 g.blocked, .int .i64 g.endless] 38)).heap[w.heap.size]? = some (.cells #[.int .i64 g.b.cells, .slice x.an g.b.next.length x.cn, .slice x.at_ g.b.turn.length x.ct, .slice x.ak g.kinds.length x.ck, .int .i64 g.rights, .bool g.must, .slice x.ac g.clauses.length x.cc, .int .i64 g.blocked, .int .i64 g.endless] 38 (0, 0)) := World.alloc_heap_new _ _
 unfold clausesB
 by_cases h : g.clauses.length ≤ 6
 · have t1 : decide ((g.clauses.length : Int) ≤ 6) = true := by rw [decide_eq_true_eq]; omega
   have t2 : decide (g.clauses.length ≤ 6) = true := by simpa using h
   have H1 := Lib.hid (hasClause_any g x g.clauses x.ac x.cc N w.heap.size (w.alloc (.cells #[.int .i64 g.b.cells, .slice x.an g.b.next.length x.cn, .slice x.at_ g.b.turn.length x.ct, .slice x.ak g.kinds.length x.ck, .int .i64 g.rights, .bool g.must, .slice x.ac g.clauses.length x.cc, .int .i64 g.blocked, .int .i64 g.endless] 38)) (by unfold maxLen; omega) (Nat.le_trans hN hb.size) (hC.up hN hb) hbox)
   have HB := Lib.hid hb;clear hb hbox;rw [t2];go_enter Tryz.func48, Tryz.ntmps48
   go_wp2_with fail
   refine H1.out.mono ?_;rintro e w2 ⟨rfl, hb2⟩;have HB2 := Lib.hid (below_step HB.out hb2);clear hb2;go_wp2
   go_ret
   exact ⟨by simp, HB2.out⟩
 · have t1 : decide ((g.clauses.length : Int) ≤ 6) = false := by rw [decide_eq_false_iff_not]; omega
   have t2 : decide (g.clauses.length ≤ 6) = false := by simpa using h
   rw [t2];go_enter Tryz.func48, Tryz.ntmps48;go_wp2
   go_ret
   exact ⟨by simp, hb⟩
set_option maxRecDepth 100000 in
set_option maxHeartbeats 3000000 in
theorem validKinds_any (g : GameD) (x : GPl) (N : Nat) (w : World) (hN : N ≤ w.heap.size) (hK : KindsIn N w x.ak g.kinds) (hS : SignsIn w) :
   Calls Tryz.prog 47 #[.agg #[.int .i64 g.b.cells, .slice x.an g.b.next.length x.cn, .slice x.at_ g.b.turn.length x.ct, .slice x.ak g.kinds.length x.ck, .int .i64 g.rights, .bool g.must, .slice x.ac g.clauses.length x.cc, .int .i64 g.blocked, .int .i64 g.endless]] w fun e w' => e = .returned (.bool (kindsB g)) ∧ Below w.heap.size w w' := by
 unfold kindsB
 by_cases h1 : g.kinds.length < 1
 · have t1 : decide ((g.kinds.length : Int) < 1) = true := by rw [decide_eq_true_eq]; omega
   have t2 : decide (1 ≤ g.kinds.length) = false := by rw [decide_eq_false_iff_not]; omega
   rw [t2];go_enter Tryz.func47, Tryz.ntmps47;go_wp2
   go_ret
   exact ⟨by simp, below_alloc (Below.refl _ _) _⟩
 have t1 : decide ((g.kinds.length : Int) < 1) = false := by rw [decide_eq_false_iff_not]; omega
 by_cases h2 : 6 < g.kinds.length
 · have t3 : decide ((6 : Int) < (g.kinds.length : Int)) = true := by rw [decide_eq_true_eq]; omega
   have t2 : decide (g.kinds.length ≤ 6) = false := by rw [decide_eq_false_iff_not]; omega
   rw [t2];go_enter Tryz.func47, Tryz.ntmps47;go_wp2
   go_ret
   exact ⟨by simp, below_alloc (Below.refl _ _) _⟩
 have t3 : decide ((6 : Int) < (g.kinds.length : Int)) = false := by rw [decide_eq_false_iff_not]; omega
 rw [show decide (1 ≤ g.kinds.length) = true by rw [decide_eq_true_eq]; omega, show decide (g.kinds.length ≤ 6) = true by rw [decide_eq_true_eq]; omega, Bool.true_and, Bool.true_and]
 have hb := below_alloc (Below.refl _ w) (.cells #[.int .i64 g.b.cells, .slice x.an g.b.next.length x.cn, .slice x.at_ g.b.turn.length x.ct, .slice x.ak g.kinds.length x.ck, .int .i64 g.rights, .bool g.must, .slice x.ac g.clauses.length x.cc, .int .i64 g.blocked, .int .i64 g.endless] 38)
 have hbox : (w.alloc (.cells #[.int .i64 g.b.cells, .slice x.an g.b.next.length x.cn, .slice x.at_ g.b.turn.length x.ct, .slice x.ak g.kinds.length x.ck, .int .i64 g.rights, .bool g.must, .slice x.ac g.clauses.length x.cc, .int .i64 g.blocked, .int .i64 g.endless] 38)).heap[w.heap.size]? = some (.cells #[.int .i64 g.b.cells, .slice x.an g.b.next.length x.cn, .slice x.at_ g.b.turn.length x.ct, .slice x.ak g.kinds.length x.ck, .int .i64 g.rights, .bool g.must, .slice x.ac g.clauses.length x.cc, .int .i64 g.blocked, .int .i64 g.endless] 38 (0, 0)) := World.alloc_heap_new _ _
 go_enter Tryz.func47, Tryz.ntmps47
 go_wp2
 have HBX := Lib.hid (fun W (h : Below (w.alloc (.cells #[.int .i64 g.b.cells, .slice x.an g.b.next.length x.cn, .slice x.at_ g.b.turn.length x.ct, .slice x.ak g.kinds.length x.ck, .int .i64 g.rights, .bool g.must, .slice x.ac g.clauses.length x.cc, .int .i64 g.blocked, .int .i64 g.endless] 38)).heap.size (w.alloc (.cells #[.int .i64 g.b.cells, .slice x.an g.b.next.length x.cn, .slice x.at_ g.b.turn.length x.ct, .slice x.ak g.kinds.length x.ck, .int .i64 g.rights, .bool g.must, .slice x.ac g.clauses.length x.cc, .int .i64 g.blocked, .int .i64 g.endless] 38)) W) => (h.block _ (bx_lt hbox)).trans hbox)
 clear hbox
 generalize w.alloc (.cells #[.int .i64 g.b.cells, .slice x.an g.b.next.length x.cn, .slice x.at_ g.b.turn.length x.ct, .slice x.ak g.kinds.length x.ck, .int .i64 g.rights, .bool g.must, .slice x.ac g.clauses.length x.cc, .int .i64 g.blocked, .int .i64 g.endless] 38) = w0 at *
 clear t1 t3
 go_loopw [18] (fun v wr => ∃ q : Nat, q ≤ g.kinds.length ∧ v = .int .i64 (q : Int) ∧ (∀ j (hj : j < q), kindAt g j = true) ∧ Below w0.heap.size w0 wr) (fun v _ => (g.kinds.length - intOf v).toNat)
 case atStart => exact ⟨0, Nat.zero_le _, rfl, fun j hj => absurd hj (Nat.not_lt_zero _), Below.refl _ _⟩
 case round =>
   obtain ⟨q, hq, rfl, hall, hbr⟩ := hrel;have HALL := Lib.hid hall;clear hall
   by_cases hlt : q < g.kinds.length
   · have hb1 := below_step hb hbr
     obtain ⟨b, off, aj, cj, hak, hbn, z0, z1, zP, z2⟩ := (hK.up hN hb1).at_ hlt
     have t3 : decide ((q : Int) < (g.kinds.length : Int)) = true := by rw [decide_eq_true_eq]; omega
     have t3' : decide (q < g.kinds.length) = true := by simpa using hlt
     have b3 : (0 : Int) ≤ (q : Int) := by omega
     have b4 : (q : Int) < (g.kinds.length : Int) := by omega
     have y0 : IntKind.i64.wrap ((q : Int) + 1) = (q : Int) + 1 := IntWalk.i64_in _ (by omega)
     have HKA : Hid (kindAt g q = kindB g q (g.kinds[q]'hlt)) := Lib.hid (by unfold kindAt; rw [List.getElem?_eq_getElem hlt]; rfl)
     have HAK := Lib.hid hak;have hba := below_alloc (Below.refl _ wr) (.cells #[.string ⟨(g.kinds[q]'hlt).name.toArray⟩, .slice aj (g.kinds[q]'hlt).progs.length cj, .bool (g.kinds[q]'hlt).keep] 63);have hkb : (wr.alloc (.cells #[.string ⟨(g.kinds[q]'hlt).name.toArray⟩, .slice aj (g.kinds[q]'hlt).progs.length cj, .bool (g.kinds[q]'hlt).keep] 63)).heap[wr.heap.size]? = some (.cells #[.string ⟨(g.kinds[q]'hlt).name.toArray⟩, .slice aj (g.kinds[q]'hlt).progs.length cj, .bool (g.kinds[q]'hlt).keep] 63 (0, 0)) := World.alloc_heap_new _ _;go_upto_region 6 with (fail);have hbA := below_step hb1 hba;have hrA := below_step hbr hba;generalize hwA : wr.alloc (.cells #[.string ⟨(g.kinds[q]'hlt).name.toArray⟩, .slice aj (g.kinds[q]'hlt).progs.length cj, .bool (g.kinds[q]'hlt).keep] 63) = wA at *;clear hwA;have HGX := Lib.hid (fun W (h : Below wA.heap.size wA W) => HBX.out W (below_step hrA h))
     have HKB := Lib.hid (fun W (h : Below wA.heap.size wA W) => (h.block _ (bx_lt hkb)).trans hkb);have HKI := Lib.hid (fun W (h : Below wA.heap.size wA W) => (⟨Nat.le_trans hN (below_step hbA h).size, hK.up hN (below_step hbA h), hS.up (below_step hbA h), trivial⟩ : N ≤ W.heap.size ∧ KindsIn N W x.ak g.kinds ∧ SignsIn W ∧ True));have HPI := Lib.hid (fun W (h : Below wA.heap.size wA W) => zP.up (Nat.le_trans hN hb1.size) (below_step hba h));have HBA := Lib.hid hbA;have HRA := Lib.hid hrA;have HIS := Lib.hid (isName_any (g.kinds[q]'hlt).name wA);clear z0 z1 z2 zP hkb hbA hrA hba hb1 hbr hak;generalize hkq : g.kinds[q]'hlt = kq at *;clear hkq
     have hres : ∀ bb : Bool, kindB g q kq = bb → kindAt g q = bb := fun bb h => by rw [HKA.out, h]
     have HRES := Lib.hid hres;clear hres HKA;have hz := HKB.out wA (Below.refl _ _);have z0 := bx_cell hz 0 rfl;have z1 := bx_cell hz 1 rfl;have z2 := bx_cell hz 2 rfl;clear hz
     cases hn : nameB kq.name with
     | false =>
       rw [hn] at HIS
       have HF : Hid (kindAt g q = false) := Lib.hid (HRES.out false (by unfold kindB; rw [hn]; rfl))
       clear hn
       go_wp2_with fail
       refine HIS.out.mono ?_;rintro e w2 ⟨rfl, hb2⟩;have HB2 := Lib.hid (below_step HBA.out hb2);clear hb2 z0 z1 z2;go_wp2
       go_ret
       exact ⟨by rw [range_no hlt HF.out]; try rfl, HB2.out⟩
     | true =>
       rw [hn] at HIS
       go_wp2_with fail
       refine HIS.out.mono ?_;rintro e w2 ⟨rfl, hb2⟩;have hz := HKB.out w2 hb2;have hg := HGX.out w2 hb2;obtain ⟨hN2, hK2, -, -⟩ := HKI.out w2 hb2;clear z0 z1 z2;have z0 := bx_cell hz 0 rfl;have z1 := bx_cell hz 1 rfl;have z2 := bx_cell hz 2 rfl;have g0 := bx_cell hg 0 rfl;have g1 := bx_cell hg 1 rfl;have g2 := bx_cell hg 2 rfl;have g3 := bx_cell hg 3 rfl;have g4 := bx_cell hg 4 rfl;have g5 := bx_cell hg 5 rfl;have g6 := bx_cell hg 6 rfl;have g7 := bx_cell hg 7 rfl;have g8 := bx_cell hg 8 rfl
       have HFI := Lib.hid (gfind_any g x kq.name N w2 (by unfold maxLen; omega) hN2 hK2)
       unfold GameD.cells at HFI;have HB2 := Lib.hid hb2;clear hz hg hN2 hK2 hb2;have HN := Lib.hid hn;clear hn
       go_wp2_with fail
       refine HFI.out.mono ?_;rintro e w3 ⟨rfl, hb3⟩;have h23 := below_step HB2.out hb3;have HB3 := Lib.hid h23;obtain ⟨fd, hfd⟩ : ∃ fd, findD g.kinds kq.name = fd := ⟨_, rfl⟩;rw [hfd];clear z0 z1 z2 g0 g1 g2 g3 g4 g5 g6 g7 g8
       by_cases hf : fd = (q : Int)
       · have f1 : (fd != (q : Int)) = false := by rw [bne_eq_false_iff_eq]; exact hf
         have HFD := Lib.hid (hfd.trans hf);clear hfd hf;have hz := HKB.out w3 h23;have hg := HGX.out w3 h23;obtain ⟨hN2, -, hS2, -⟩ := HKI.out w3 h23;have z0 := bx_cell hz 0 rfl;have z1 := bx_cell hz 1 rfl;have z2 := bx_cell hz 2 rfl;have g0 := bx_cell hg 0 rfl;have g1 := bx_cell hg 1 rfl;have g2 := bx_cell hg 2 rfl;have g3 := bx_cell hg 3 rfl;have g4 := bx_cell hg 4 rfl;have g5 := bx_cell hg 5 rfl;have g6 := bx_cell hg 6 rfl;have g7 := bx_cell hg 7 rfl;have g8 := bx_cell hg 8 rfl;have HPR := Lib.hid (validProgs_any g x kq.progs aj cj N w3 hN2 (HPI.out w3 h23) hS2);clear hz hg hN2 hS2 h23 hb3
         go_wp2_with fail
         refine HPR.out.mono ?_;rintro e w4 ⟨rfl, hb4⟩;have HB4 := Lib.hid (below_step HB3.out hb4);clear hb4 z0 z1 z2 g0 g1 g2 g3 g4 g5 g6 g7 g8
         cases hp : progsB g kq.progs with
         | false =>
           have HF : Hid (kindAt g q = false) := Lib.hid (HRES.out false (by unfold kindB; rw [HN.out, HFD.out, hp]; simp))
           clear hp;go_wp2
           go_ret
           exact ⟨by rw [range_no hlt HF.out]; try rfl, below_step HBA.out HB4.out⟩
         | true =>
           have HF : Hid (kindAt g q = true) := Lib.hid (HRES.out true (by unfold kindB; rw [HN.out, HFD.out, hp]; simp))
           clear hp;go_wp2
           go_roundw
           case rel =>
             refine ⟨q + 1, by omega, by go_num, fun j hj => ?_, below_step HRA.out HB4.out⟩
             by_cases hjq : j < q
             · exact HALL.out j hjq
             · obtain rfl : j = q := by omega
               exact HF.out
           case measure => simp [intOf]; omega
       · have f1 : (fd != (q : Int)) = true := by rw [bne_iff_ne]; exact hf
         have HF : Hid (kindAt g q = false) := Lib.hid (HRES.out false (by unfold kindB; rw [HN.out, hfd, decide_eq_false hf]; rfl))
         clear hfd hf h23 hb3;go_wp2
         go_ret
         exact ⟨by rw [range_no hlt HF.out]; try rfl, below_step HBA.out HB3.out⟩
   · obtain rfl : q = g.kinds.length := by omega
     have HB := Lib.hid (below_step hb hbr);clear hbr;go_wp2
     go_ret
     refine ⟨?_, HB.out⟩;rw [show (List.range g.kinds.length).all (kindAt g) = true from List.all_eq_true.2 (fun j hj => HALL.out j (List.mem_range.1 hj))]
     try rfl
set_option maxRecDepth 100000 in
set_option maxHeartbeats 3000000 in
theorem gvalid_any (g : GameD) (x : GPl) (N : Nat) (w : World) (hN : N ≤ w.heap.size) (hG : GameIn N w x g) (hS : SignsIn w) :
   Calls Tryz.prog 24 #[.agg #[.int .i64 g.b.cells, .slice x.an g.b.next.length x.cn, .slice x.at_ g.b.turn.length x.ct, .slice x.ak g.kinds.length x.ck, .int .i64 g.rights, .bool g.must, .slice x.ac g.clauses.length x.cc, .int .i64 g.blocked, .int .i64 g.endless]] w fun e w' => e = .returned (.bool (validG g)) ∧ Below w.heap.size w w' := by
 have hb := below_alloc (Below.refl _ w) (.cells #[.int .i64 g.b.cells, .slice x.an g.b.next.length x.cn, .slice x.at_ g.b.turn.length x.ct, .slice x.ak g.kinds.length x.ck, .int .i64 g.rights, .bool g.must, .slice x.ac g.clauses.length x.cc, .int .i64 g.blocked, .int .i64 g.endless] 38)
 have hbox : (w.alloc (.cells #[.int .i64 g.b.cells, .slice x.an g.b.next.length x.cn, .slice x.at_ g.b.turn.length x.ct, .slice x.ak g.kinds.length x.ck, .int .i64 g.rights, .bool g.must, .slice x.ac g.clauses.length x.cc, .int .i64 g.blocked, .int .i64 g.endless] 38)).heap[w.heap.size]? = some (.cells #[.int .i64 g.b.cells, .slice x.an g.b.next.length x.cn, .slice x.at_ g.b.turn.length x.ct, .slice x.ak g.kinds.length x.ck, .int .i64 g.rights, .bool g.must, .slice x.ac g.clauses.length x.cc, .int .i64 g.blocked, .int .i64 g.endless] 38 (0, 0)) := World.alloc_heap_new _ _
 have HF := Lib.hid (fun W (h : Below (w.alloc (.cells #[.int .i64 g.b.cells, .slice x.an g.b.next.length x.cn, .slice x.at_ g.b.turn.length x.ct, .slice x.ak g.kinds.length x.ck, .int .i64 g.rights, .bool g.must, .slice x.ac g.clauses.length x.cc, .int .i64 g.blocked, .int .i64 g.endless] 38)).heap.size (w.alloc (.cells #[.int .i64 g.b.cells, .slice x.an g.b.next.length x.cn, .slice x.at_ g.b.turn.length x.ct, .slice x.ak g.kinds.length x.ck, .int .i64 g.rights, .bool g.must, .slice x.ac g.clauses.length x.cc, .int .i64 g.blocked, .int .i64 g.endless] 38)) W) => (⟨(h.block _ (bx_lt hbox)).trans hbox, Nat.le_trans hN (below_step hb h).size, hG.up hN (below_step hb h), hS.up (below_step hb h), below_step hb h⟩ : W.heap[w.heap.size]? = some (.cells #[.int .i64 g.b.cells, .slice x.an g.b.next.length x.cn, .slice x.at_ g.b.turn.length x.ct, .slice x.ak g.kinds.length x.ck, .int .i64 g.rights, .bool g.must, .slice x.ac g.clauses.length x.cc, .int .i64 g.blocked, .int .i64 g.endless] 38 (0, 0)) ∧ N ≤ W.heap.size ∧ GameIn N W x g ∧ SignsIn W ∧ Below w.heap.size w W))
 go_enter Tryz.func24, Tryz.ntmps24
 go_upto_region 1 with (fail)
 generalize w.alloc (.cells #[.int .i64 g.b.cells, .slice x.an g.b.next.length x.cn, .slice x.at_ g.b.turn.length x.ct, .slice x.ak g.kinds.length x.ck, .int .i64 g.rights, .bool g.must, .slice x.ac g.clauses.length x.cc, .int .i64 g.blocked, .int .i64 g.endless] 38) = w0 at *
 clear hb hbox
 obtain ⟨hg, hN0, hG0, hS0, -⟩ := HF.out w0 (Below.refl _ _)
 have HB := Lib.hid (bvalid_all g.b x.an x.at_ x.cn x.ct N w0 hN0 hG0.board)
 unfold Brd.val at HB
 have g0 := bx_cell hg 0 rfl
 have g1 := bx_cell hg 1 rfl
 have g2 := bx_cell hg 2 rfl
 have g3 := bx_cell hg 3 rfl
 have g4 := bx_cell hg 4 rfl
 have g5 := bx_cell hg 5 rfl
 have g6 := bx_cell hg 6 rfl
 have g7 := bx_cell hg 7 rfl
 have g8 := bx_cell hg 8 rfl
 clear hg hN0 hG0 hS0
 cases h1 : validS g.b with
 | false =>
   rw [h1] at HB;have F1 := Lib.hid h1;clear h1
   go_wp2_with fail
   refine HB.out.mono ?_;rintro e w1 ⟨rfl, hb⟩;clear g0 g1 g2 g3 g4 g5 g6 g7 g8;have Hw1 := Lib.hid (hb);clear hb
   go_wp2_with fail
   go_ret
   exact ⟨by rw [show validG g = false from by unfold validG; simp [F1.out]]; try rfl, (HF.out _ Hw1.out).2.2.2.2⟩
 | true =>
   rw [h1] at HB;have F1 := Lib.hid h1;clear h1
   go_wp2_with fail
   refine HB.out.mono ?_;rintro e w1 ⟨rfl, hb⟩;clear g0 g1 g2 g3 g4 g5 g6 g7 g8;have Hw1 := Lib.hid (hb);clear hb;obtain ⟨hg, hN0, hG0, hS0, hbw⟩ := HF.out w1 Hw1.out;have g0 := bx_cell hg 0 rfl;have g1 := bx_cell hg 1 rfl;have g2 := bx_cell hg 2 rfl;have g3 := bx_cell hg 3 rfl;have g4 := bx_cell hg 4 rfl;have g5 := bx_cell hg 5 rfl;have g6 := bx_cell hg 6 rfl;have g7 := bx_cell hg 7 rfl;have g8 := bx_cell hg 8 rfl;have HB2 := Lib.hid (validKinds_any g x N w1 hN0 hG0.kinds hS0);clear hg hN0 hG0 hS0 hbw
   cases h2 : kindsB g with
   | false =>
     rw [h2] at HB2;have F2 := Lib.hid h2;clear h2
     go_wp2_with fail
     refine HB2.out.mono ?_;rintro e w2 ⟨rfl, hb⟩;clear g0 g1 g2 g3 g4 g5 g6 g7 g8;have Hw2 := Lib.hid (below_step Hw1.out hb);clear hb
     go_wp2_with fail
     go_ret
     exact ⟨by rw [show validG g = false from by unfold validG; simp [F1.out, F2.out]]; try rfl, (HF.out _ Hw2.out).2.2.2.2⟩
   | true =>
     rw [h2] at HB2;have F2 := Lib.hid h2;clear h2
     go_wp2_with fail
     refine HB2.out.mono ?_;rintro e w2 ⟨rfl, hb⟩;clear g0 g1 g2 g3 g4 g5 g6 g7 g8;have Hw2 := Lib.hid (below_step Hw1.out hb);clear hb;obtain ⟨hg, hN0, hG0, hS0, hbw⟩ := HF.out w2 Hw2.out;have g0 := bx_cell hg 0 rfl;have g1 := bx_cell hg 1 rfl;have g2 := bx_cell hg 2 rfl;have g3 := bx_cell hg 3 rfl;have g4 := bx_cell hg 4 rfl;have g5 := bx_cell hg 5 rfl;have g6 := bx_cell hg 6 rfl;have g7 := bx_cell hg 7 rfl;have g8 := bx_cell hg 8 rfl;have HB3 := Lib.hid (validClauses_any g x N w2 hN0 hG0.clauses);clear hg hN0 hG0 hS0 hbw
     cases h3 : decide (0 ≤ g.rights) with
     | false =>
       have F3 := Lib.hid h3
       go_wp2_with fail
       go_ret
       exact ⟨by rw [show validG g = false from by unfold validG; simp [F1.out, F2.out, F3.out]]; try rfl, (HF.out _ Hw2.out).2.2.2.2⟩
     | true =>
       have F3 := Lib.hid h3
       cases h4 : decide (g.rights ≤ 4) with
       | false =>
         have F4 := Lib.hid h4
         go_wp2_with fail
         go_ret
         exact ⟨by rw [show validG g = false from by unfold validG; simp [F1.out, F2.out, F3.out, F4.out]]; try rfl, (HF.out _ Hw2.out).2.2.2.2⟩
       | true =>
         have F4 := Lib.hid h4
         cases h5 : clausesB g with
         | false =>
           rw [h5] at HB3;have F5 := Lib.hid h5;clear h5
           go_wp2_with fail
           refine HB3.out.mono ?_;rintro e w3 ⟨rfl, hb⟩;clear g0 g1 g2 g3 g4 g5 g6 g7 g8;have Hw3 := Lib.hid (below_step Hw2.out hb);clear hb
           go_wp2_with fail
           go_ret
           exact ⟨by rw [show validG g = false from by unfold validG; simp [F1.out, F2.out, F3.out, F4.out, F5.out]]; try rfl, (HF.out _ Hw3.out).2.2.2.2⟩
         | true =>
           rw [h5] at HB3;have F5 := Lib.hid h5;clear h5
           go_wp2_with fail
           refine HB3.out.mono ?_;rintro e w3 ⟨rfl, hb⟩;clear g0 g1 g2 g3 g4 g5 g6 g7 g8;have Hw3 := Lib.hid (below_step Hw2.out hb);clear hb;obtain ⟨hg, hN0, hG0, hS0, hbw⟩ := HF.out w3 Hw3.out;have g0 := bx_cell hg 0 rfl;have g1 := bx_cell hg 1 rfl;have g2 := bx_cell hg 2 rfl;have g3 := bx_cell hg 3 rfl;have g4 := bx_cell hg 4 rfl;have g5 := bx_cell hg 5 rfl;have g6 := bx_cell hg 6 rfl;have g7 := bx_cell hg 7 rfl;have g8 := bx_cell hg 8 rfl;clear hg hN0 hG0 hS0 hbw;have HI := Lib.hid (isResult_any g.blocked w3);have HJ := Lib.hid (isResult_any g.endless w3)
           cases h6 : resB g.blocked with
           | false =>
             rw [h6] at HI;have F6 := Lib.hid h6;clear h6
             go_wp2_with fail
             refine HI.out.mono ?_;rintro e wz ⟨rfl, ez⟩;subst wz
             go_wp2_with fail
             go_ret
             exact ⟨by rw [show validG g = false from by unfold validG; simp [F1.out, F2.out, F3.out, F4.out, F5.out, F6.out]]; try rfl, (HF.out _ Hw3.out).2.2.2.2⟩
           | true =>
             rw [h6] at HI;have F6 := Lib.hid h6;clear h6
             go_wp2_with fail
             refine HI.out.mono ?_;rintro e wz ⟨rfl, ez⟩;subst wz
             go_wp2_with fail
             refine HJ.out.mono ?_;rintro e wz ⟨rfl, ez⟩;subst wz
             go_wp2_with fail
             go_ret
             exact ⟨by rw [show validG g = resB g.endless from by unfold validG; simp [F1.out, F2.out, F3.out, F4.out, F5.out, F6.out]]; try rfl, (HF.out _ Hw3.out).2.2.2.2⟩
end Go.Proofs.YtbmcngoeinginaaGreatDoor
