/-
 Valid of the package prog.
 written and Print of the package prog.
 Print of the package prog.
 What of the library's variables the reading of texts asks for; written at every number; Atoi at every string.
 Slices of steps that are the call's own.
 read of the package prog.
 Parse of the package prog.
-/
import Derived.Test.YtbmcngoeinginaaGreatDoorCBas
import Derived.Test.YtbmcngoeinginaaGreatDoorShelf
import Derived.Sort.OwnSortedInts
import Derived.OwnWalk
import Derived.Laws.OwnMore
import Derived.Lib.SmallJoins
import Derived.Lib.ItoaLen
import Derived.Test.YtbmcngoeinginaaGreatDoorShelfT
import Derived.Shelf.Strings.SlTrimAscii
import Derived.Deep.MidRow
import Derived.Laws.ResultCell
import Derived.Maps.AppendAt
namespace Go.Proofs.YtbmcngoeinginaaGreatDoor
open Go Go.RowKit
def limS (d k r : Int) (m : Int) : Int := if m = 0 then 1 else if m = 1 then d else if m = 2 then k else r
def okStep (d k r : Int) (x : Int × Int) : Bool := opB x.1 && (decide (0 ≤ x.2) && decide (x.2 < limS d k r (nameS x.1.toNat)))
def cntS (l : List (Int × Int)) (op : Int) : Int := ((l.filter fun x => decide (x.1 = op)).length : Nat)
def cntL (l : List (Int × Int)) : List Int := (List.range 11).map fun j => cntS l ((j : Nat) : Int)
def validP (l : List (Int × Int)) (d k r : Int) : Bool := decide (1 ≤ l.length) && (decide (l.length ≤ 8) && (l.all (okStep d k r) && (decide (cntS l 6 ≤ 2) && (decide (cntS l 7 ≤ 1) && decide (cntS l 8 ≤ 1)))))
theorem cntS_snoc (l : List (Int × Int)) (x : Int × Int) (op : Int) : cntS (l ++ [x]) op = cntS l op + if x.1 = op then 1 else 0 := by
 unfold cntS
 rw [List.filter_append]
 by_cases h : x.1 = op <;> simp [h]
theorem cntS_le (l : List (Int × Int)) (op : Int) : 0 ≤ cntS l op ∧ cntS l op ≤ l.length := by
 unfold cntS
 exact ⟨by omega, by have := List.length_filter_le (fun x : Int × Int => decide (x.1 = op)) l; omega⟩
theorem cntL_get (l : List (Int × Int)) {j : Nat} (hj : j < 11) : (cntL l)[j]?.getD 0 = cntS l j := by unfold cntL; simp [hj]
theorem cntL_snoc (l : List (Int × Int)) (o : Nat) (n : Int) (ho : o < 11) : cntL (l ++ [((o : Int), n)]) = (cntL l).set o (cntS l o + 1) := by
 apply List.ext_getElem
 · simp [cntL]
 · intro i h1 h2
   have hi : i < 11 := by simpa [cntL] using h1
   by_cases e : i = o
   · subst e
     rw [List.getElem_set_self]
     simp [cntL, cntS_snoc]
   · rw [List.getElem_set_ne (fun h => e h.symm)]
     have : ¬ (o : Int) = (i : Int) := fun h => e (Int.ofNat.inj h).symm
     simp [cntL, cntS_snoc, this]
def ArrIn (B : Nat) (t : TypeId) (cs : List Int) (W : World) : Prop := W.heap[B]? = some (.cells (cs.map (Value.int .i64)).toArray t (0, 0))
theorem ArrIn.cell {B : Nat} {t : TypeId} {cs : List Int} {W : World} (h : ArrIn B t cs W) {j : Nat} (hj : j < cs.length) : W.cell? ⟨B, j, none⟩ = some (.int .i64 (cs[j]?.getD 0)) ∧ W.frozen? ⟨B, j, none⟩ = false := by
 unfold ArrIn at h
 refine ⟨?_, ?_⟩
 · unfold World.cell?; rw [h]; simp [hj]
 · unfold World.frozen?; rw [h]; simp
theorem ArrIn.below {B : Nat} {t : TypeId} {cs : List Int} {W W' : World} (h : ArrIn B t cs W) (hb : Below W.heap.size W W') : ArrIn B t cs W' :=
 (hb.block B (Array.getElem?_eq_some_iff.1 h).1).trans h
theorem ArrIn.set {B : Nat} {t : TypeId} {cs : List Int} {W : World} (h : ArrIn B t cs W) (j : Nat) (x : Int) : ArrIn B t (cs.set j x) (W.setCell ⟨B, j, none⟩ (.int .i64 x)) := by
 unfold ArrIn at h ⊢
 simp [World.setCell, Array.getElem?_modify, h, List.map_set]
theorem ArrIn.lt {B : Nat} {t : TypeId} {cs : List Int} {W : World} (h : ArrIn B t cs W) : B < W.heap.size := (Array.getElem?_eq_some_iff.1 h).1
theorem name_range (j : Nat) : 0 ≤ nameS j ∧ nameS j ≤ 3 := by
 unfold nameS namesL
 by_cases h : j < 11
 · have : j = 0 ∨ j = 1 ∨ j = 2 ∨ j = 3 ∨ j = 4 ∨ j = 5 ∨ j = 6 ∨ j = 7 ∨ j = 8 ∨ j = 9 ∨ j = 10 := by omega
   rcases this with rfl | rfl | rfl | rfl | rfl | rfl | rfl | rfl | rfl | rfl | rfl <;> decide
 · have : ([0, 1, 1, 0, 0, 0, 0, 1, 2, 3, 3] : List Int)[j]? = none := by simp; omega
   rw [this]; simp
set_option maxRecDepth 100000 in
set_option maxHeartbeats 4000000 in
theorem valid_any (l : List (Int × Int)) (a : Option Addr) (c : Nat) (d k r : Int) (N : Nat) (w : World) (hN : N ≤ w.heap.size) (hI : Prg N w a l) (hS : SignsIn w) :
   Calls Tryz.prog 27 #[.slice a l.length c, .int .i64 d, .int .i64 k, .int .i64 r] w fun e w' => e = .returned (.bool (validP l d k r)) ∧ Below w.heap.size w w' := by
 by_cases h1 : l.length < 1
 · have HO := Lib.hid (by simp [validP]; omega : validP l d k r = false)
   have t1 : decide ((l.length : Int) < 1) = true := by simp; omega
   go_enter Tryz.func27, Tryz.ntmps27;go_wp2
   go_ret
   exact ⟨by rw [HO.out]; rfl, by exact BLW⟩
 have t1 : decide ((l.length : Int) < 1) = false := by simp; omega
 by_cases h2 : 8 < l.length
 · have HO := Lib.hid (by simp [validP]; omega : validP l d k r = false)
   have t2 : decide ((8 : Int) < (l.length : Int)) = true := by simp; omega
   go_enter Tryz.func27, Tryz.ntmps27;go_wp2
   go_ret
   exact ⟨by rw [HO.out]; rfl, by exact BLW⟩
 have t2 : decide ((8 : Int) < (l.length : Int)) = false := by simp; omega
 have hl1 : 1 ≤ l.length := by omega
 have hl8 : l.length ≤ 8 := by omega
 clear h1 h2
 go_enter Tryz.func27, Tryz.ntmps27
 go_wp2_with fail
 obtain ⟨wl, hwl⟩ : ∃ wl, wl = w.alloc (.cells #[.int .i64 1, .int .i64 d, .int .i64 k, .int .i64 r] 99) := ⟨_, rfl⟩
 have sl : wl.heap.size = w.heap.size + 1 := by rw [hwl, World.size_alloc]
 have bl : Below w.heap.size w wl := by rw [hwl]; exact below_alloc (Below.refl _ _) _
 have z0 : wl.cell? ⟨w.heap.size, 0, none⟩ = some (.int .i64 1) := by rw [hwl]; exact cell_new_at _ _ _ _ _ _ rfl rfl
 have z1 : wl.cell? ⟨w.heap.size, 1, none⟩ = some (.int .i64 d) := by rw [hwl]; exact cell_new_at _ _ _ _ _ _ rfl rfl
 have z2 : wl.cell? ⟨w.heap.size, 2, none⟩ = some (.int .i64 k) := by rw [hwl]; exact cell_new_at _ _ _ _ _ _ rfl rfl
 have z3 : wl.cell? ⟨w.heap.size, 3, none⟩ = some (.int .i64 r) := by rw [hwl]; exact cell_new_at _ _ _ _ _ _ rfl rfl
 rw [← hwl]
 clear hwl
 have hlim : ∀ m : Nat, m ≤ 3 → wl.cell? ⟨w.heap.size, m, none⟩ = some (.int .i64 (limS d k r m)) := by
   intro m hm
   have : m = 0 ∨ m = 1 ∨ m = 2 ∨ m = 3 := by omega
   rcases this with rfl | rfl | rfl | rfl
   · exact z0
   · exact z1
   · exact z2
   · exact z3
 clear z0 z1 z2 z3
 obtain ⟨w1, hw1⟩ : ∃ w1, w1 = wl.alloc (.cells #[.int .i64 0, .int .i64 0, .int .i64 0, .int .i64 0, .int .i64 0, .int .i64 0, .int .i64 0, .int .i64 0, .int .i64 0, .int .i64 0, .int .i64 0] 100) := ⟨_, rfl⟩
 have s1 : w1.heap.size = w.heap.size + 1 + 1 := by rw [hw1, World.size_alloc, sl]
 have b1 : Below wl.heap.size wl w1 := by rw [hw1]; exact below_alloc (Below.refl _ _) _
 have hc1 : ArrIn (w.heap.size + 1) 100 (cntL []) w1 := by rw [hw1, ← sl]; exact World.alloc_heap_new _ _
 rw [← hw1]
 clear hw1
 replace hlim := fun m hm => cell_keep b1 (hlim m hm)
 have bw1 := below_step bl b1
 have HLIM := Lib.hid hlim
 have s1' : w.heap.size + 1 < w1.heap.size := by omega
 clear hlim b1 bl sl s1
 go_loopw [27] (fun i wr => ∃ q : Nat, q ≤ l.length ∧ i = .int .i64 q ∧ (∀ j, j < q → okStep d k r (l[j]?.getD (0, 0)) = true) ∧ ArrIn (w.heap.size + 1) 100 (cntL (l.take q)) wr ∧ Alters (fun b => b = w.heap.size + 1) w1 wr)
   (fun i _ => l.length - (intOf i).toNat)
 case atStart => exact ⟨0, Nat.zero_le _, rfl, fun j hj => absurd hj (Nat.not_lt_zero _), hc1, Alters.refl _ _⟩
 case round =>
   clear hc1;obtain ⟨q, hq, rfl, hall, hcn, hal⟩ := hrel;have hbw : Below w.heap.size w wr := bw1.trans (hal.below bw1.size (fun b hb => by omega))
   by_cases hlt : q < l.length
   · obtain ⟨b, off, hab, hbN, hop, hnn⟩ := (hI.up hN hbw).at_ hlt
     subst hab
     have htk : l.take (q + 1) = l.take q ++ [l[q]?.getD (0, 0)] := by rw [List.take_add_one]; simp [hlt]
     have hno : okStep d k r (l[q]?.getD (0, 0)) = false → validP l d k r = false := fun h => by
       have : l.all (okStep d k r) = false := by
         rw [List.all_eq_false];exact ⟨l[q], List.getElem_mem hlt, by simpa [hlt] using h⟩
       simp [validP, this]
     have hcl := cntS_le (l.take q)
     have hget := fun {j : Nat} (hj : j < 11) => cntL_get (l.take q) hj
     have hsn := cntL_snoc (l.take q)
     have hllen : (l.take q).length = q := by simp; omega
     have hcc := fun {j : Nat} (hj : j < (cntL (l.take q)).length) => hcn.cell hj
     generalize hxe : l[q]?.getD (0, 0) = x at hop hnn htk hno;obtain ⟨op, n⟩ := x;have HXE := Lib.hid hxe;clear hxe;dsimp only at hop hnn;have HTK := Lib.hid htk;have HNO := Lib.hid hno;have HA := Lib.hid hall;clear hall htk hno
     go_wp2_with fail
     have b5 : Below wr.heap.size wr (wr.alloc (.cells #[.int .i64 op, .int .i64 n] 91)) := below_alloc (Below.refl _ _) _;have e0 : (wr.alloc (.cells #[.int .i64 op, .int .i64 n] 91)).cell? ⟨wr.heap.size, 0, none⟩ = some (.int .i64 op) := cell_new_at _ _ _ _ _ _ rfl rfl;have e1 : (wr.alloc (.cells #[.int .i64 op, .int .i64 n] 91)).cell? ⟨wr.heap.size, 1, none⟩ = some (.int .i64 n) := cell_new_at _ _ _ _ _ _ rfl rfl;have b5w := below_step hbw b5;have hal5 : Alters (fun b => b = w.heap.size + 1) w1 (wr.alloc (.cells #[.int .i64 op, .int .i64 n] 91)) := hal.trans ((Alters.of_below b5 : Alters (fun _ => False) _ _).mono (fun _ _ h => h.elim));have hcn5 := hcn.below b5;have hS5 := hS.up b5w
     have hcc5 := fun {j : Nat} (hj : j < (cntL (l.take q)).length) => hcn5.cell hj
     have HLIM5 := Lib.hid (fun m hm => (World.cell?_of_block (a := ⟨w.heap.size, m, none⟩) (hal5.block w.heap.size (by omega) (by omega))).trans (HLIM.out m hm))
     have hss : wr.heap.size < (wr.alloc (.cells #[.int .i64 op, .int .i64 n] 91)).heap.size := by rw [World.size_alloc]; omega
     have hsb : w.heap.size + 1 < wr.heap.size := by have := hal.size; omega
     generalize wr.alloc (.cells #[.int .i64 op, .int .i64 n] 91) = w5 at *;generalize wr.heap.size = sb at *;clear hcc hcn hal hbw b5 hop hnn
     cases hob : opB op with
     | false =>
       have HO := Lib.hid (HNO.out (by simp [okStep, hob]));have HOB := Lib.hid hob
       have hio : ∀ W, Calls Tryz.prog 55 #[.int .i64 op] W fun e w' => e = .returned (.bool false) ∧ w' = W := fun W => by
         have := isOp_any op W
         rwa [HOB.out] at this
       have HIO := Lib.hid hio;clear hob hio hcl hget hsn hcc5 hS5
       go_quiet ((go_at_call 55; exact Calls.quiet_of_same (HIO.out _)))
       go_wp2
       go_ret
       exact ⟨by rw [HO.out]; rfl, by exact BLW⟩
     | true =>
       obtain ⟨j, rfl, h0, h11⟩ := opB_nat hob;have HOB := Lib.hid hob
       have hio : ∀ W, Calls Tryz.prog 55 #[.int .i64 (j : Int)] W fun e w' => e = .returned (.bool true) ∧ w' = W := fun W => by
         have := isOp_any (j : Int) W
         rwa [HOB.out] at this
       have HIO := Lib.hid hio;clear hob hio
       have h11' : (j : Int) < 11 := by omega
       obtain ⟨_, hnm⟩ := hS5 j h11;have h0b : (0 : Nat) < w5.heap.size := World.block_lt_of_cell? w5 _ hnm;have hrg := name_range j;obtain ⟨mm, hmm⟩ := Int.eq_ofNat_of_zero_le hrg.1
       have hok : okStep d k r ((j : Int), n) = (decide (0 ≤ n) && decide (n < limS d k r mm)) := by
         unfold okStep;rw [HOB.out, Bool.true_and]
         show (decide (0 ≤ n) && decide (n < limS d k r (nameS (j : Int).toNat))) = _
         rw [Int.toNat_natCast, hmm]
       rw [hmm] at hnm
       have hm3 : mm ≤ 3 := by omega
       have hm4 : (mm : Int) < 4 := by omega
       have hlm := HLIM5.out mm hm3;have hg := hget h11
       obtain ⟨hcj, hfj⟩ := hcc5 (j := j) (by simp [cntL]; omega)
       rw [hg] at hcj;have hcl6 := hcl (j : Int);have hset := hcn5.set j (cntS (l.take q) j + 1);rw [← hsn j n h11, ← HTK.out] at hset;generalize limS d k r mm = lm at hok hlm;generalize cntS (l.take q) j = cj at hcj hcl6 hset;rw [hllen] at hcl6;have HSET := Lib.hid hset;have HOK := Lib.hid hok;have HLL := Lib.hid hllen;have HCN5 := Lib.hid hcn5;clear hset hok hllen hcl hget hsn hcc5 hS5 hrg hmm hg hcn5
       by_cases hn0 : n < 0
       · have t3 : decide (n < 0) = true := by simpa using hn0
         have HO := Lib.hid (HNO.out (by rw [HOK.out]; simp; omega))
         go_quiet ((go_at_call 55; exact Calls.quiet_of_same (HIO.out _)))
         go_wp2
         go_ret
         exact ⟨by rw [HO.out]; rfl, by exact BLW⟩
       have t3 : decide (n < 0) = false := by simpa using hn0
       by_cases hn1 : lm ≤ n
       · have t4 : decide (lm ≤ n) = true := by simpa using hn1
         have HO := Lib.hid (HNO.out (by rw [HOK.out]; simp; omega))
         go_quiet ((go_at_call 55; exact Calls.quiet_of_same (HIO.out _)))
         go_wp2
         go_ret
         exact ⟨by rw [HO.out]; rfl, by exact BLW⟩
       · have t4 : decide (lm ≤ n) = false := by simpa using hn1
         have HOKT := Lib.hid (by rw [HOK.out]; simp; omega : okStep d k r ((j : Int), n) = true)
         have HAL := Lib.hid (fun m => (hal5.trans ((Alters.of_below (below_drewN_ (Below.refl _ w5) m) : Alters (fun _ => False) _ _).mono (fun _ _ h => h.elim))).trans (alters_cell (w5.drewN m) (w.heap.size + 1) j (.int .i64 (cj + 1))));have HX := Lib.hid HXE.out
         go_quiet ((go_at_call 55; exact Calls.quiet_of_same (HIO.out _)))
         go_wp2
         go_roundw
         case rel => exact ⟨q + 1, by omega, by simp, fun j' hj' => by
           by_cases e : j' = q
           · rw [e, HX.out]; exact HOKT.out
           · exact HA.out j' (by omega), HSET.out, HAL.out _⟩
         case measure => simp [intOf]; omega
   · obtain rfl : q = l.length := by omega
     have hall2 : l.all (okStep d k r) = true := by
       rw [List.all_eq_true];intro x hx;obtain ⟨i, hi⟩ := List.getElem?_of_mem hx;have := hall i (List.getElem?_eq_some_iff.1 hi).1
       rwa [hi] at this
     rw [List.take_length] at hcn;obtain ⟨g6, _⟩ := hcn.cell (j := 6) (by simp [cntL]);obtain ⟨g7, _⟩ := hcn.cell (j := 7) (by simp [cntL]);obtain ⟨g8, _⟩ := hcn.cell (j := 8) (by simp [cntL]);rw [cntL_get l (by omega)] at g6 g7 g8
     have hval : validP l d k r = (decide (cntS l 6 ≤ 2) && (decide (cntS l 7 ≤ 1) && decide (cntS l 8 ≤ 1))) := by
       unfold validP;rw [hall2]
       have e1 : decide (1 ≤ l.length) = true := by simpa using hl1
       have e2 : decide (l.length ≤ 8) = true := by simpa using hl8
       rw [e1, e2]
       simp
     have k6 := cntS_le l 6;have k7 := cntS_le l 7;have k8 := cntS_le l 8
     change wr.cell? ⟨w.heap.size + 1, 6, none⟩ = some (.int .i64 (cntS l 6)) at g6
     change wr.cell? ⟨w.heap.size + 1, 7, none⟩ = some (.int .i64 (cntS l 7)) at g7
     change wr.cell? ⟨w.heap.size + 1, 8, none⟩ = some (.int .i64 (cntS l 8)) at g8
     generalize cntS l 6 = v6 at *;generalize cntS l 7 = v7 at *;generalize cntS l 8 = v8 at *;have HV := Lib.hid hval;clear hall2 hall hval hcn hal
     by_cases c6 : v6 ≤ 2
     · by_cases c7 : v7 ≤ 1
       · by_cases c8 : v8 ≤ 1
         · go_wp2
           go_ret
           exact ⟨by rw [HV.out]; simp [c6, c7, c8], hbw⟩
         · go_wp2
           go_ret
           exact ⟨by rw [HV.out]; simp [c6, c7, c8], hbw⟩
       · go_wp2
         go_ret
         exact ⟨by rw [HV.out]; simp; omega, hbw⟩
     · go_wp2
       go_ret
       exact ⟨by rw [HV.out]; simp; omega, hbw⟩
end Go.Proofs.YtbmcngoeinginaaGreatDoor
namespace Go.Proofs.YtbmcngoeinginaaGreatDoor
open Go Go.RowKit Go.Sort Go.Lib
def strV (l : List UInt8) : Value := .string ⟨l.toArray⟩
def writtenS (x : Int × Int) : List UInt8 := wordL[x.1.toNat]?.getD [] ++ if nameS x.1.toNat = 0 then [] else itoa x.2
theorem itoa_nat (i : Nat) : itoa (i : Int) = decDigits i := by unfold itoa; rw [if_neg (by omega)]; rfl
theorem word_len (op : Nat) : (wordL[op]?.getD []).length ≤ 6 := by
 unfold wordL
 by_cases h : op < 11
 · have : op = 0 ∨ op = 1 ∨ op = 2 ∨ op = 3 ∨ op = 4 ∨ op = 5 ∨ op = 6 ∨ op = 7 ∨ op = 8 ∨ op = 9 ∨ op = 10 := by omega
   rcases this with rfl | rfl | rfl | rfl | rfl | rfl | rfl | rfl | rfl | rfl | rfl <;> decide
 · rw [List.getElem?_eq_none (by simp; omega)]; simp
theorem dec_len (n : Nat) (hn : n < 100) : (decDigits n).length ≤ 2 := by
 unfold decDigits
 split
 · simp
 · unfold decDigits
   rw [dif_pos (by omega)]
   simp
theorem app_str (a b : List UInt8) : ((⟨a.toArray⟩ : ByteArray) ++ ⟨b.toArray⟩) = ⟨(a ++ b).toArray⟩ := by
 apply ByteArray.ext
 simp
set_option maxRecDepth 100000 in
theorem written_any (op : Nat) (n : Nat) (w : World) (h11 : op < 11) (hn : n < 100) (hS : SignsIn w) :
   Calls Tryz.prog 129 #[.agg #[.int .i64 op, .int .i64 n]] w fun e w' => e = .returned (.string ⟨(writtenS ((op : Int), (n : Int))).toArray⟩) ∧ Below w.heap.size w w' := by
 obtain ⟨hw, hm⟩ := hS op h11
 have h11' : (op : Int) < 11 := by omega
 have h0b : (0 : Nat) < w.heap.size := World.block_lt_of_cell? w _ hm
 have hval : writtenS ((op : Int), (n : Int)) = wordL[op]?.getD [] ++ if nameS op = 0 then [] else decDigits n := by
   unfold writtenS;rw [Int.toNat_natCast, itoa_nat]
 rw [hval]
 unfold wordS at hw
 have hwl : (wordL[op]?.getD []).length ≤ 6 := word_len op
 have hdl : (decDigits n).length ≤ 2 := dec_len n hn
 have hsum : ¬ 9223372036854775807 < (wordL[op]?.getD []).length + (decDigits n).length := by omega
 generalize wordL[op]?.getD [] = wd at hw hwl hsum ⊢
 generalize nameS op = m at hm ⊢
 clear hval
 by_cases h0 : m = 0
 · have t1 : (m == 0) = true := by simpa using h0
   have t2 : decide (m = 0) = true := by simpa using h0
   have H0 := Lib.hid h0;clear h0;go_enter Tryz.func129, Tryz.ntmps129;go_wp2
   go_ret
   first | exact ⟨rfl, by exact BLW⟩ | exact ⟨by rw [if_pos H0.out, List.append_nil]; rfl, by exact BLW⟩
 · have t1 : (m == 0) = false := by simpa using h0
   have t2 : decide (m = 0) = false := by simpa using h0
   have H0 := Lib.hid h0
   have hit := fun W => Tryz.strconv_Itoa_small n hn W
   have HIT := Lib.hid hit;clear h0 hit;go_enter Tryz.func129, Tryz.ntmps129
   go_wp2_with fail
   refine (HIT.out _).mono ?_;rintro e w' ⟨rfl, rfl⟩;go_wp2
   go_ret
   exact ⟨by rw [← app_str]; rfl, by exact BLW⟩
end Go.Proofs.YtbmcngoeinginaaGreatDoor
namespace Go.Proofs.YtbmcngoeinginaaGreatDoor
open Go Go.RowKit Go.Sort Go.Lib
def printS (l : List (Int × Int)) : List UInt8 := if validP l 8 6 4 = true then join (l.map writtenS) [32] else []
theorem printable_any (l : List (Int × Int)) (a : Option Addr) (c N : Nat) (w : World) (hN : N ≤ w.heap.size) (hI : Prg N w a l) (hS : SignsIn w) :
   Calls Tryz.prog 128 #[.slice a l.length c] w fun e w' => e = .returned (.bool (validP l 8 6 4)) ∧ Below w.heap.size w w' := by
 have hv := valid_any l a c 8 6 4 N w hN hI hS
 have HV := Lib.hid hv
 clear hv
 go_enter Tryz.func128, Tryz.ntmps128
 go_wp2_with fail
 refine HV.out.mono ?_
 rintro e w' ⟨rfl, hb⟩
 go_wp2
 go_ret
 exact ⟨rfl, hb⟩
theorem valid_step {l : List (Int × Int)} (h : validP l 8 6 4 = true) {j : Nat} (hj : j < l.length) : ∃ op n : Nat, l[j]?.getD (0, 0) = ((op : Int), (n : Int)) ∧ 0 < op ∧ op < 11 ∧ n < 8 := by
 unfold validP at h
 simp only [Bool.and_eq_true, List.all_eq_true] at h
 have hx := h.2.2.1 _ (List.getElem_mem hj)
 rw [List.getElem?_eq_getElem hj, Option.getD_some]
 generalize l[j] = x at hx
 obtain ⟨op, n⟩ := x
 unfold okStep at hx
 simp only [Bool.and_eq_true, decide_eq_true_eq] at hx
 obtain ⟨o, rfl, h0, h11⟩ := opB_nat hx.1
 obtain ⟨m, rfl⟩ := Int.eq_ofNat_of_zero_le hx.2.1
 have hlim : ∀ m : Int, limS 8 6 4 m ≤ 8 := fun m => by unfold limS; split <;> (try split) <;> (try split) <;> omega
 have := hlim (nameS (o : Int).toNat)
 exact ⟨o, m, rfl, h0, h11, by have := hx.2.2; omega⟩
theorem valid_len {l : List (Int × Int)} (h : validP l 8 6 4 = true) : 1 ≤ l.length ∧ l.length ≤ 8 := by
 unfold validP at h
 simp only [Bool.and_eq_true, decide_eq_true_eq] at h
 exact ⟨h.1, h.2.1⟩
def wordsTo (l : List (Int × Int)) (q : Nat) : List ByteArray := (List.range l.length).map fun j => if j < q then ⟨(writtenS (l[j]?.getD (0, 0))).toArray⟩ else ⟨#[]⟩
theorem wordsTo_zero (l : List (Int × Int)) : (wordsTo l 0).map Value.string = List.replicate l.length (.string ⟨#[]⟩) := by
 apply List.ext_getElem
 · simp [wordsTo]
 · intro i h1 h2; simp [wordsTo]
theorem wordsTo_succ (l : List (Int × Int)) (q : Nat) : (wordsTo l (q + 1)).map Value.string = ((wordsTo l q).map Value.string).set q (.string ⟨(writtenS (l[q]?.getD (0, 0))).toArray⟩) := by
 apply List.ext_getElem
 · simp [wordsTo]
 · intro i h1 h2
   by_cases e : i = q
   · subst e; rw [List.getElem_set_self]; simp [wordsTo]
   · rw [List.getElem_set_ne (fun h => e h.symm)]
     simp only [wordsTo, List.getElem_map, List.getElem_range]
     by_cases hi : i < q
     · rw [if_pos hi, if_pos (by omega)]
     · rw [if_neg hi, if_neg (by omega)]
theorem wordsTo_full (l : List (Int × Int)) : (wordsTo l l.length).map (fun x => x.data.toList) = l.map writtenS := by
 apply List.ext_getElem
 · simp [wordsTo]
 · intro i h1 h2
   have hi : i < l.length := by simpa using h2
   simp [wordsTo, hi]
theorem written_len (op n : Nat) (hn : n < 100) : (writtenS ((op : Int), (n : Int))).length ≤ 8 := by
 unfold writtenS
 rw [Int.toNat_natCast, itoa_nat]
 have h1 := word_len op
 have h2 := dec_len n hn
 split <;> simp <;> omega
theorem lens_le (xs : List (List UInt8)) (h : ∀ x ∈ xs, x.length ≤ 8) : lens xs ≤ 8 * xs.length := by
 induction xs with
 | nil => simp [lens]
 | cons x r ih =>
   have h1 := h x (by simp);have h2 := ih (fun y hy => h y (by simp [hy]));simp only [lens, List.map_cons, List.sum_cons, List.length_cons] at h2 ⊢
   omega
theorem print_len {l : List (Int × Int)} (h : validP l 8 6 4 = true) : (join (l.map writtenS) [32]).length ≤ 100 := by
 obtain ⟨h1, h8⟩ := valid_len h
 have hall : ∀ x ∈ l.map writtenS, x.length ≤ 8 := by
   intro x hx;obtain ⟨y, hy, rfl⟩ := List.mem_map.1 hx;obtain ⟨j, hj⟩ := List.getElem?_of_mem hy;obtain ⟨op, n, e, _, _, hn⟩ := valid_step h (List.getElem?_eq_some_iff.1 hj).1;rw [hj, Option.getD_some] at e;rw [e];exact written_len op n (by omega)
 have hl := lens_le _ hall
 rw [List.length_map] at hl
 cases hm : l.map writtenS with
 | nil => simp [join_nil]
 | cons x r =>
   rw [join_length, ← hm]
   have : r.length + 1 = l.length := by have := congrArg List.length hm; simpa using this.symm
   simp
   omega
theorem info_str : (Tryz.prog.info? 9).map (fun i => (i.zero, i.size, i.bytes)) = some (some (.string ⟨#[]⟩), 1, 16) := by kernel_rfl
set_option maxRecDepth 100000 in
set_option maxHeartbeats 2000000 in
theorem print_any (l : List (Int × Int)) (a : Option Addr) (c N : Nat) (w : World) (hN : N ≤ w.heap.size) (hI : Prg N w a l) (hS : SignsIn w) :
   Calls Tryz.prog 112 #[.slice a l.length c] w fun e w' => e = .returned (.string ⟨(printS l).toArray⟩) ∧ Below w.heap.size w w' := by
 have hpr := printable_any l a c N w hN hI hS
 have HPR := Lib.hid hpr
 clear hpr
 cases hv : validP l 8 6 4 with
 | false =>
   have HO := Lib.hid (by unfold printS; rw [hv]; rfl : printS l = [])
   have HV := Lib.hid hv;clear hv;go_enter Tryz.func112, Tryz.ntmps112
   go_wp2_with fail
   refine HPR.out.mono ?_;rintro e w' ⟨rfl, hb⟩;rw [HV.out];go_wp2
   go_ret
   exact ⟨by rw [HO.out]; rfl, hb⟩
 | true =>
   have HO := Lib.hid (by unfold printS; rw [if_pos hv] : printS l = join (l.map writtenS) [32])
   obtain ⟨hl1, hl8⟩ := valid_len hv
   have hst := fun (j : Nat) (hj : j < l.length) => valid_step hv hj
   have hpl := print_len hv;have HST := Lib.hid hst;have HPL := Lib.hid hpl;have HV := Lib.hid hv;clear hv hst hpl;obtain ⟨i0, hi, hz0, hz1, hz2⟩ := info_parts info_str;go_enter Tryz.func112, Tryz.ntmps112
   go_wp2_with fail
   refine HPR.out.mono ?_;rintro e w1 ⟨rfl, hb1⟩;rw [HV.out];have hs1 := hb1.size
   go_wp2_with (at_make; go_loud (refine wpList_make_full _ rfl _ _ 73 rfl w.heap.size 9 i0 (.string ⟨#[]⟩) 1 Tryz.underlying73 hi hz0 hz1 .i64 .i64 l.length l.length l.length rfl rfl rfl rfl (by rw [hz2]; omega) (by unfold maxLen; omega) (by omega) ?_; intro w5 hown5 hgrow5))
   have hmz : (madeCells (Value.string ⟨#[]⟩).cells (l.length * 1)).toList = (wordsTo l 0).map Value.string := by
     rw [wordsTo_zero]
     apply List.ext_getElem
     · simp [madeCells]
     · intro i h1 h2
       simp [madeCells, Value.cells, Nat.mod_one]
   rw [hmz] at hown5;have hb5 : Below w.heap.size w w5 := hb1.trans ((Alters.of_grown hgrow5).below hs1 (fun k hk => by cases hk));generalize w1.heap.size = G at *;clear hgrow5 hmz hb1
   go_loopw [14] (fun i wr => ∃ q : Nat, q ≤ l.length ∧ i = .int .i64 q ∧ wr.ownsRow w.heap.size 9 1 (.slice (some ⟨G, 0, none⟩) l.length l.length) l.length ((wordsTo l q).map Value.string) ∧ Below w.heap.size w wr)
     (fun i _ => l.length - (intOf i).toNat)
   case atStart => exact ⟨0, Nat.zero_le _, rfl, hown5, hb5⟩
   case round =>
     clear hown5 hb5;obtain ⟨q, hq, rfl, ho, hbw⟩ := hrel
     by_cases hlt : q < l.length
     · obtain ⟨b, off, hab, hbN, hop, hnn⟩ := (hI.up hN hbw).at_ hlt
       subst hab;obtain ⟨op, n, hxe, ho0, ho11, hn8⟩ := HST.out q hlt;have hsuc := wordsTo_succ l q;rw [hxe] at hop hnn hsuc;dsimp only at hop hnn;have HS := Lib.hid hsuc;clear hsuc hxe;have hbs : Below wr.heap.size wr (wr.alloc (.cells #[.int .i64 op, .int .i64 n] 91)) := below_alloc (Below.refl _ _) _;have hbw6 := below_step hbw hbs;have ho6 := ho.alloc (.cells #[.int .i64 op, .int .i64 n] 91)
       go_wp2_with fail
       generalize wr.alloc (.cells #[.int .i64 op, .int .i64 n] 91) = w6 at *;refine (written_any op n w6 ho11 (by omega) (hS.up hbw6)).mono ?_;rintro e w7 ⟨rfl, hb7⟩
       have ho7 : w7.ownsRow w.heap.size 9 1 (.slice (some ⟨G, 0, none⟩) l.length l.length) l.length ((wordsTo l q).map Value.string) := by
         refine ⟨ho6.1, ?_⟩
         rcases ho6.2 with h2 | ⟨g, cap, cur, hv, hg, hc, r⟩
         · exact .inl h2
         · exact .inr ⟨g, cap, cur, hv, hg, (hb7.block g (Array.getElem?_eq_some_iff.1 hc).1).trans hc, r⟩
       have hbw7 := below_step hbw6 hb7;have hGw : w.heap.size ≤ G := (World.ownsRow.lt ho7 G rfl).1;have hcq := World.ownsRow.cellAt ho7 q (by omega);obtain ⟨old, hold⟩ : ∃ old, ((wordsTo l q).map Value.string)[q]? = some old := ⟨((wordsTo l q).map Value.string)[q]'(by simp [wordsTo, hlt]), by simp [wordsTo, hlt]⟩;rw [hold] at hcq;have hfq := World.ownsRow.frozenAt ho7 q;have hset := (World.ownsRow.stored ho7 q (.string ⟨(writtenS ((op : Int), (n : Int))).toArray⟩)).1;rw [← HS.out] at hset;generalize writtenS ((op : Int), (n : Int)) = wd at hset ⊢;have HSET := Lib.hid hset
       have HB := Lib.hid (hbw7.setCell (p := ⟨G, q, none⟩) (by show w.heap.size ≤ G; omega) (.string ⟨wd.toArray⟩))
       clear hset ho7 hbw7 hb7 ho6 hbw6 ho hbw hbs hop hnn hold;go_wp2
       go_roundw
       case rel => exact ⟨q + 1, by omega, by simp, HSET.out, HB.out⟩
       case measure => simp [intOf]; omega
     · obtain rfl : q = l.length := by omega
       have hj := Tryz.strings_Join G 0 l.length (wordsTo l l.length) ⟨#[32]⟩ wr (fun j x hx => by
         have hjl : j < l.length := by have := (List.getElem?_eq_some_iff.1 hx).1; simpa [wordsTo] using this
         have := World.ownsRow.cellAt ho j (by omega)
         rw [Nat.zero_add, this, List.getElem?_map, hx]; rfl) (World.ownsRow.lt ho G rfl).2 (by simp [wordsTo]; omega) (by simp [wordsTo]) (by rw [wordsTo_full]; have := HPL.out; show (join (l.map writtenS) [32]).length ≤ _; omega)
       rw [wordsTo_full] at hj
       have hwl : (wordsTo l l.length).length = l.length := by simp [wordsTo]
       rw [hwl] at hj;have HJ := Lib.hid hj;clear hj hwl ho
       go_wp2_with fail
       refine HJ.out.mono ?_;rintro e w8 ⟨rfl, hb8⟩;have hb9 := below_step hbw hb8;go_wp2
       go_ret
       exact ⟨by rw [HO.out]; rfl, hb9⟩
end Go.Proofs.YtbmcngoeinginaaGreatDoor
namespace Go.Proofs.YtbmcngoeinginaaGreatDoor
open Go Go.RowKit Go.Sort Go.Lib
structure LibIn (W : World) : Prop where
 signs : SignsIn W
 max : ∃ m : Int, W.cell? ⟨2, 0, none⟩ = some (.int .i64 m)
 syn : ∃ ev, W.cell? ⟨4, 0, none⟩ = some ev ∧ (ev = .nilIface ∨ ∃ te pe, ev = .iface te pe)
 ran : ∃ ev, W.cell? ⟨5, 0, none⟩ = some ev ∧ (ev = .nilIface ∨ ∃ te pe, ev = .iface te pe)
 tab : TabIs Tryz.prog W "internal/strconv.uint64pow10" .u64 pow10Tab
theorem tab_up {W W' : World} {name : String} {k : IntKind} {zs : List Int} (h : TabIs Tryz.prog W name k zs) (hb : Below W.heap.size W W') : TabIs Tryz.prog W' name k zs := by
 unfold TabIs at *
 cases hg : Tryz.prog.globalNamed name with
 | none => unfold World.var? at h; simp [hg] at h
 | some g => exact Go.Joins.var_stays hg h hb (Nat.le_refl _)
theorem LibIn.up {w w' : World} (h : LibIn w) (hb : Below w.heap.size w w') : LibIn w' := by
 obtain ⟨h1, ⟨m, h2⟩, ⟨e3, h3, h3'⟩, ⟨e4, h4, h4'⟩, h5⟩ := h
 exact ⟨h1.up hb, ⟨m, cell_keep hb h2⟩, ⟨e3, cell_keep hb h3, h3'⟩, ⟨e4, cell_keep hb h4, h4'⟩, tab_up h5 hb⟩
theorem below_grow (w : World) (k : Nat) (os : Array Obj) : Below w.heap.size w (grow (w.drewN k) os) :=
 ⟨rfl, rfl, rfl, by simp, fun j hj => heap_grow_old (w.drewN k) os hj⟩
def numS (l : List UInt8) : Int :=
 match atoiAll l with
 | .ok v => v
 | .range => atoiSat l
 | _ => 0
theorem atoi_any (s : ByteArray) (hs : s.size ≤ 281474976710656) (w : World) (hL : LibIn w) :
   Calls Tryz.prog 121 #[.string s] w fun e w' => ∃ er, e = .returned (.tuple #[.int .i64 (numS s.data.toList), er]) ∧ Below w.heap.size w w' := by
 unfold numS
 cases h : atoiAll s.data.toList
 case ok v =>
   refine (Tryz.strconv_Atoi_ok s (by omega) v h w).mono ?_;rintro e w' ⟨rfl, hw⟩;refine ⟨_, rfl, ?_⟩
   rcases hw with rfl | ⟨t, rfl⟩
   · exact Below.refl _ _
   · exact Go.Joins.below_bytesWorld _ _ _ _ (Nat.le_refl _)
 case range =>
   obtain ⟨ev, h1, h2⟩ := hL.ran;refine (Tryz.strconv_Atoi_range s hs h ev w h1 h2).mono ?_;rintro e w' ⟨N, rfl, _, _, hb⟩;exact ⟨_, rfl, hb⟩
 · obtain ⟨ev, h1, h2⟩ := hL.syn
   refine (Tryz.strconv_Atoi_syntax s hs h ev w h1 h2).mono ?_;rintro e w' ⟨N, rfl, _, _, hb⟩;exact ⟨_, rfl, hb⟩
theorem numS_bounds (l : List UInt8) : -9223372036854775808 ≤ numS l ∧ numS l ≤ 9223372036854775807 := by
 unfold numS
 cases h : atoiAll l
 case ok v => have := atoiAll_bounds h; exact this
 case range => show _ ≤ atoiSat l ∧ atoiSat l ≤ _; unfold atoiSat; split <;> omega
 · simp
set_option maxRecDepth 100000 in
theorem written_gen (op : Nat) (n : Int) (w : World) (h11 : op < 11) (h0 : -9223372036854775808 ≤ n) (h1 : n ≤ 9223372036854775807) (hL : LibIn w) :
   Calls Tryz.prog 129 #[.agg #[.int .i64 op, .int .i64 n]] w fun e w' => e = .returned (.string ⟨(writtenS ((op : Int), n)).toArray⟩) ∧ Below w.heap.size w w' := by
 obtain ⟨hw, hm⟩ := hL.signs op h11
 have h11' : (op : Int) < 11 := by omega
 have h0b : (0 : Nat) < w.heap.size := World.block_lt_of_cell? w _ hm
 have hval : writtenS ((op : Int), n) = wordL[op]?.getD [] ++ if nameS op = 0 then [] else itoa n := by
   unfold writtenS;rw [Int.toNat_natCast]
 rw [hval]
 unfold wordS at hw
 have hwl : (wordL[op]?.getD []).length ≤ 6 := word_len op
 have hdl : (itoa n).length ≤ 21 := itoa_length_le n h0 h1
 have hsum : ¬ 9223372036854775807 < (wordL[op]?.getD []).length + (itoa n).length := by omega
 generalize wordL[op]?.getD [] = wd at hw hwl hsum ⊢
 generalize nameS op = m at hm ⊢
 clear hval
 have hit := fun W hT => Tryz.strconv_Itoa n h0 h1 W hT
 have HIT := Lib.hid hit
 have HLL := Lib.hid hL
 clear hit h0 h1 hL
 by_cases h0 : m = 0
 · have t1 : (m == 0) = true := by simpa using h0
   have t2 : decide (m = 0) = true := by simpa using h0
   have H0 := Lib.hid h0;clear h0;go_enter Tryz.func129, Tryz.ntmps129;go_wp2
   go_ret
   first | exact ⟨rfl, by exact BLW⟩ | exact ⟨by rw [if_pos H0.out, List.append_nil]; rfl, by exact BLW⟩
 · have t1 : (m == 0) = false := by simpa using h0
   have t2 : decide (m = 0) = false := by simpa using h0
   have H0 := Lib.hid h0;clear h0;go_enter Tryz.func129, Tryz.ntmps129
   go_wp2_with fail
   refine (HIT.out _ (tab_up HLL.out.tab (by exact BLW))).mono ?_;rintro e w' ⟨rfl, k, os, rfl⟩;have hbg : Below w.heap.size w (grow ((w.alloc (.cells #[.int .i64 op, .int .i64 n] 91)).drewN k) os) := below_step (below_alloc (Below.refl _ _) _) (below_grow _ k os);generalize grow ((w.alloc (.cells #[.int .i64 op, .int .i64 n] 91)).drewN k) os = w7 at *;go_wp2
   go_ret
   exact ⟨by rw [← app_str]; rfl, by exact BLW⟩
end Go.Proofs.YtbmcngoeinginaaGreatDoor
namespace Go.Proofs.YtbmcngoeinginaaGreatDoor
open Go Go.RowKit
def flatP : List (Int × Int) → List Value
 | [] => []
 | x :: l => .int .i64 x.1 :: .int .i64 x.2 :: flatP l
theorem flatP_len : ∀ l : List (Int × Int), (flatP l).length = l.length * 2
 | [] => rfl
 | x :: l => by simp only [flatP, List.length_cons, flatP_len l]; omega
theorem flatP_get : ∀ (l : List (Int × Int)) (j : Nat), j < l.length → (flatP l)[j * 2]? = some (.int .i64 (l[j]?.getD (0, 0)).1) ∧ (flatP l)[j * 2 + 1]? = some (.int .i64 (l[j]?.getD (0, 0)).2)
 | x :: l, 0, _ => by simp [flatP]
 | x :: l, j + 1, h => by
   have ih := flatP_get l j (by simpa using h)
   have e : (j + 1) * 2 = j * 2 + 1 + 1 := by omega
   rw [e];simp only [flatP, List.getElem?_cons_succ];exact ih
theorem flatP_set : ∀ (l : List (Int × Int)) (j : Nat) (x : Int × Int), j < l.length → ((flatP l).set (j * 2) (.int .i64 x.1)).set (j * 2 + 1) (.int .i64 x.2) = flatP (l.set j x)
 | y :: l, 0, x, _ => by simp [flatP]
 | y :: l, j + 1, x, h => by
   have ih := flatP_set l j x (by simpa using h)
   have e : (j + 1) * 2 = j * 2 + 1 + 1 := by omega
   rw [e];simp only [flatP, List.set_cons_succ];rw [ih]
theorem flatP_app : ∀ l m : List (Int × Int), flatP (l ++ m) = flatP l ++ flatP m
 | [], m => rfl
 | x :: l, m => by simp [flatP, flatP_app l m]
theorem flatP_one : ∀ l : List (Int × Int), ∀ u ∈ flatP l, u.oneCell' = true
 | [], u, h => by cases h
 | x :: l, u, h => by
   simp only [flatP, List.mem_cons] at h
   rcases h with rfl | rfl | h
   · rfl
   · rfl
   · exact flatP_one l u h
def OwnStp (n : Nat) (W : World) (v : Value) (l : List (Int × Int)) : Prop := W.ownsRow n 91 2 v l.length (flatP l)
theorem OwnStp.form {n : Nat} {W : World} {v : Value} {l : List (Int × Int)} (h : OwnStp n W v l) : (v = .slice none 0 0 ∧ l = []) ∨ ∃ g cap, v = .slice (some ⟨g, 0, none⟩) l.length cap ∧ n ≤ g ∧ g < W.heap.size := by
 rcases h.2 with ⟨h1, h2⟩ | ⟨g, cap, cur, hv, hg, hc, _⟩
 · exact .inl ⟨h1, List.length_eq_zero_iff.1 h2⟩
 · exact .inr ⟨g, cap, hv, hg, (Array.getElem?_eq_some_iff.1 hc).1⟩
theorem OwnStp.mono {n m : Nat} {W : World} {v : Value} {l : List (Int × Int)} (h : OwnStp n W v l) (hm : m ≤ n) : OwnStp m W v l := by
 refine ⟨h.1, ?_⟩
 rcases h.2 with h2 | ⟨g, cap, cur, hv, hg, r⟩
 · exact .inl h2
 · exact .inr ⟨g, cap, cur, hv, Nat.le_trans hm hg, r⟩
theorem OwnStp.alters {n : Nat} {W W' : World} {v : Value} {l : List (Int × Int)} (h : OwnStp n W v l) {S : Nat → Prop} (ha : Alters S W W') (hS : ∀ k, S k → ¬ some k = v.ownBlock) : OwnStp n W' v l := by
 refine ⟨h.1, ?_⟩
 rcases h.2 with h2 | ⟨g, cap, cur, rfl, hg, hc, r⟩
 · exact .inl h2
 · exact .inr ⟨g, cap, cur, rfl, hg, (ha.block g (Array.getElem?_eq_some_iff.1 hc).1 (fun hs => hS g hs rfl)).trans hc, r⟩
theorem OwnStp.below {n : Nat} {W W' : World} {v : Value} {l : List (Int × Int)} (h : OwnStp n W v l) (hb : Below W.heap.size W W') : OwnStp n W' v l :=
 h.alters (S := fun _ => False) (Alters.of_below hb) (fun _ h => h.elim)
theorem OwnStp.cellAt {n : Nat} {W : World} {g k cap : Nat} {l : List (Int × Int)} (h : OwnStp n W (.slice (some ⟨g, 0, none⟩) k cap) l) {j : Nat} (hj : j < l.length) :
   W.cell? ⟨g, j * 2, none⟩ = some (.int .i64 (l[j]?.getD (0, 0)).1) ∧ W.cell? ⟨g, j * 2 + 1, none⟩ = some (.int .i64 (l[j]?.getD (0, 0)).2) ∧ ∀ i, W.frozen? ⟨g, i, none⟩ = false := by
 obtain rfl : k = l.length := by
   rcases h.2 with ⟨h0, _⟩ | ⟨_, _, _, hv, _⟩
   · cases h0
   · cases hv; rfl
 have hg := flatP_get l j hj
 refine ⟨?_, ?_, fun i => World.ownsRow.frozenAt h i⟩
 · rw [World.ownsRow.cellAt h _ (by omega)]; exact hg.1
 · rw [World.ownsRow.cellAt h _ (by omega)]; exact hg.2
theorem OwnStp.prg {n : Nat} {W : World} {v : Value} {l : List (Int × Int)} (h : OwnStp n W v l) : ∃ a cap, v = .slice a l.length cap ∧ Prg W.heap.size W a l := by
 rcases h.form with ⟨rfl, rfl⟩ | ⟨g, cap, rfl, hg, hlt⟩
 · exact ⟨none, 0, rfl, .inl rfl⟩
 · refine ⟨_, cap, rfl, .inr ⟨g, 0, rfl, hlt, fun j hj => ?_⟩⟩
   obtain ⟨h1, h2, _⟩ := h.cellAt hj;rw [Nat.zero_add];exact ⟨h1, h2⟩
theorem OwnStp.put {n : Nat} {W : World} {g k cap : Nat} {l : List (Int × Int)} (h : OwnStp n W (.slice (some ⟨g, 0, none⟩) k cap) l) {j : Nat} (hj : j < l.length) (x : Int × Int) :
   OwnStp n ((W.setCell ⟨g, j * 2, none⟩ (.int .i64 x.1)).setCell ⟨g, j * 2 + 1, none⟩ (.int .i64 x.2)) (.slice (some ⟨g, 0, none⟩) k cap) (l.set j x) := by
 obtain rfl : k = l.length := by
   rcases h.2 with ⟨h0, _⟩ | ⟨_, _, _, hv, _⟩
   · cases h0
   · cases hv; rfl
 have h2 := (World.ownsRow.stored (World.ownsRow.stored h (j * 2) (.int .i64 x.1)).1 (j * 2 + 1) (.int .i64 x.2)).1
 rw [flatP_set l j x hj] at h2
 unfold OwnStp
 rw [List.length_set]
 exact h2
theorem info_step : (Tryz.prog.info? 91).map (fun i => (i.zero, i.size, i.bytes)) = some (some (.agg #[.int .i64 0, .int .i64 0]), 2, 16) := by kernel_rfl
end Go.Proofs.YtbmcngoeinginaaGreatDoor
namespace Go.Proofs.YtbmcngoeinginaaGreatDoor
open Go Go.RowKit Go.Sort Go.Lib
def digitsC : List UInt8 := [48, 49, 50, 51, 52, 53, 54, 55, 56, 57]
def wordOf (s : List UInt8) : List UInt8 := trimRightS s digitsC
def numOf (s : List UInt8) : Int := numS (s.drop (wordOf s).length)
def okR (s : List UInt8) (j : Nat) : Bool := opB j && decide (wordL[j]?.getD [] = wordOf s) && decide (writtenS ((j : Int), numOf s) = s)
def readS (s : List UInt8) : Option (Int × Int) := ((List.range 11).find? (okR s)).map fun j => ((j : Int), numOf s)
theorem readS_none {s : List UInt8} (h : ∀ j, j < 11 → okR s j = false) : readS s = none := by
 unfold readS
 rw [List.find?_eq_none.2 (fun j hj => by rw [h j (by simpa using hj)]; simp)]
 rfl
theorem readS_some {s : List UInt8} {q : Nat} (hq : q < 11) (h : ∀ j, j < q → okR s j = false) (ho : okR s q = true) : readS s = some ((q : Int), numOf s) := by
 unfold readS
 rw [List.find?_range_eq_some.2 ⟨ho, by simpa using hq, fun j hj => by rw [h j hj]; rfl⟩]
 rfl
def readV : Option (Int × Int) → Value
 | some x => .tuple #[.agg #[.int .i64 x.1, .int .i64 x.2], .bool true]
 | none => .tuple #[.agg #[.int .i64 0, .int .i64 0], .bool false]
theorem wordOf_le (s : List UInt8) : (wordOf s).length ≤ s.length := by
 unfold wordOf trimRightS
 rw [List.length_reverse]
 have := (List.dropWhile_sublist (fun b => digitsC.contains b) (l := s.reverse)).length_le
 simpa using this
def signsV (ks : Nat → ByteArray) (ms : Nat → Int) : Value := .agg #[.string (ks 0), .int .i64 (ms 0), .string (ks 1), .int .i64 (ms 1), .string (ks 2), .int .i64 (ms 2), .string (ks 3), .int .i64 (ms 3), .string (ks 4), .int .i64 (ms 4), .string (ks 5), .int .i64 (ms 5), .string (ks 6), .int .i64 (ms 6), .string (ks 7), .int .i64 (ms 7), .string (ks 8), .int .i64 (ms 8), .string (ks 9), .int .i64 (ms 9), .string (ks 10), .int .i64 (ms 10)]
theorem idx_signs (ks : Nat → ByteArray) (ms : Nat → Int) (d : Nat) (h : d < 11) (W : World) : (Sem.run Tryz.prog (Instr.index 103 (signsV ks ms) (.int .i64 d)) W) = Result.ok (.agg #[.string (ks d), .int .i64 (ms d)]) W := by
 have : d = 0 ∨ d = 1 ∨ d = 2 ∨ d = 3 ∨ d = 4 ∨ d = 5 ∨ d = 6 ∨ d = 7 ∨ d = 8 ∨ d = 9 ∨ d = 10 := by omega
 rcases this with rfl | rfl | rfl | rfl | rfl | rfl | rfl | rfl | rfl | rfl | rfl <;> (show @Eq (Result Value) _ _; kernel_rfl)
theorem range_signs (ks : Nat → ByteArray) (ms : Nat → Int) (W : World) (h : ∀ j, j < 11 → W.cell? ⟨0, j * 2, none⟩ = some (.string (ks j)) ∧ W.cell? ⟨0, j * 2 + 1, none⟩ = some (.int .i64 (ms j))) :
   W.rangeAt 0 0 [.string (ks 0), .int .i64 (ms 0), .string (ks 1), .int .i64 (ms 1), .string (ks 2), .int .i64 (ms 2), .string (ks 3), .int .i64 (ms 3), .string (ks 4), .int .i64 (ms 4), .string (ks 5), .int .i64 (ms 5), .string (ks 6), .int .i64 (ms 6), .string (ks 7), .int .i64 (ms 7), .string (ks 8), .int .i64 (ms 8), .string (ks 9), .int .i64 (ms 9), .string (ks 10), .int .i64 (ms 10)] := by
 intro j v hv
 have hj : j < 22 := by
   rcases Nat.lt_or_ge j 22 with h' | h'
   · exact h'
   · rw [List.getElem?_eq_none (by simpa using h')] at hv; cases hv
 rw [Nat.zero_add]
 have : j = 0 ∨ j = 1 ∨ j = 2 ∨ j = 3 ∨ j = 4 ∨ j = 5 ∨ j = 6 ∨ j = 7 ∨ j = 8 ∨ j = 9 ∨ j = 10 ∨ j = 11 ∨ j = 12 ∨ j = 13 ∨ j = 14 ∨ j = 15 ∨ j = 16 ∨ j = 17 ∨ j = 18 ∨ j = 19 ∨ j = 20 ∨ j = 21 := by omega
 rcases this with rfl | rfl | rfl | rfl | rfl | rfl | rfl | rfl | rfl | rfl | rfl | rfl | rfl | rfl | rfl | rfl | rfl | rfl | rfl | rfl | rfl | rfl
 · cases hv; exact (h 0 (by omega)).1
 · cases hv; exact (h 0 (by omega)).2
 · cases hv; exact (h 1 (by omega)).1
 · cases hv; exact (h 1 (by omega)).2
 · cases hv; exact (h 2 (by omega)).1
 · cases hv; exact (h 2 (by omega)).2
 · cases hv; exact (h 3 (by omega)).1
 · cases hv; exact (h 3 (by omega)).2
 · cases hv; exact (h 4 (by omega)).1
 · cases hv; exact (h 4 (by omega)).2
 · cases hv; exact (h 5 (by omega)).1
 · cases hv; exact (h 5 (by omega)).2
 · cases hv; exact (h 6 (by omega)).1
 · cases hv; exact (h 6 (by omega)).2
 · cases hv; exact (h 7 (by omega)).1
 · cases hv; exact (h 7 (by omega)).2
 · cases hv; exact (h 8 (by omega)).1
 · cases hv; exact (h 8 (by omega)).2
 · cases hv; exact (h 9 (by omega)).1
 · cases hv; exact (h 9 (by omega)).2
 · cases hv; exact (h 10 (by omega)).1
 · cases hv; exact (h 10 (by omega)).2
theorem wpList_load_signs {ops : Array Oper} {rest : List Oper} {op : Oper} {a : Act} {W : World} {Q : Exit → Act → World → Prop} (hgd : op.guard = none) (x : Operand) (ho : op.op = .load 103 x)
   (hx : a.eval x = .pointer (some ⟨0, 0, none⟩)) (ks : Nat → ByteArray) (ms : Nat → Int) (h : ∀ j, j < 11 → W.cell? ⟨0, j * 2, none⟩ = some (.string (ks j)) ∧ W.cell? ⟨0, j * 2 + 1, none⟩ = some (.int .i64 (ms j)))
   (hK : wpList Tryz.prog ops Q rest (a.put op.dst (signsV ks ms)) W) : wpList Tryz.prog ops Q (op :: rest) a W := by
 have hr := range_signs ks ms W h
 have e : signsV ks ms = .agg ([.string (ks 0), .int .i64 (ms 0), .string (ks 1), .int .i64 (ms 1), .string (ks 2), .int .i64 (ms 2), .string (ks 3), .int .i64 (ms 3), .string (ks 4), .int .i64 (ms 4), .string (ks 5), .int .i64 (ms 5), .string (ks 6), .int .i64 (ms 6), .string (ks 7), .int .i64 (ms 7), .string (ks 8), .int .i64 (ms 8), .string (ks 9), .int .i64 (ms 9), .string (ks 10), .int .i64 (ms 10)] : List Value).toArray := rfl
 have hi : (Tryz.prog.info? 103).map (·.size) = some ([.string (ks 0), .int .i64 (ms 0), .string (ks 1), .int .i64 (ms 1), .string (ks 2), .int .i64 (ms 2), .string (ks 3), .int .i64 (ms 3), .string (ks 4), .int .i64 (ms 4), .string (ks 5), .int .i64 (ms 5), .string (ks 6), .int .i64 (ms 6), .string (ks 7), .int .i64 (ms 7), .string (ks 8), .int .i64 (ms 8), .string (ks 9), .int .i64 (ms 9), .string (ks 10), .int .i64 (ms 10)] : List Value).length := by show _ = some 22; kernel_rfl
 rw [e] at hK
 generalize ([.string (ks 0), .int .i64 (ms 0), .string (ks 1), .int .i64 (ms 1), .string (ks 2), .int .i64 (ms 2), .string (ks 3), .int .i64 (ms 3), .string (ks 4), .int .i64 (ms 4), .string (ks 5), .int .i64 (ms 5), .string (ks 6), .int .i64 (ms 6), .string (ks 7), .int .i64 (ms 7), .string (ks 8), .int .i64 (ms 8), .string (ks 9), .int .i64 (ms 9), .string (ks 10), .int .i64 (ms 10)] : List Value) = cs at *
 exact wpList_load_mid hgd 103 x ho 0 0 hx cs _ hr Tryz.underlying103 rfl hi hK
theorem trim_any (s : List UInt8) (hs : s.length ≤ 281474976710656) (w : World) :
   Calls Tryz.prog 151 #[.string ⟨s.toArray⟩, .string ⟨#[48, 49, 50, 51, 52, 53, 54, 55, 56, 57]⟩] w fun e w' => e = .returned (.string ⟨(wordOf s).toArray⟩) ∧ Below w.heap.size w w' := by
 exact Any.strings_TrimRight_laid Tryz.lays162 (by kernel_rfl) ⟨s.toArray⟩ ⟨#[48, 49, 50, 51, 52, 53, 54, 55, 56, 57]⟩ w (by show s.toArray.size ≤ _; simp; omega) (by decide) (ascii_of_all (by decide))
theorem ext_drop (s : List UInt8) (k : Nat) : (⟨s.toArray⟩ : ByteArray).extract k s.length = ⟨(s.drop k).toArray⟩ := by
 apply ByteArray.ext
 simp
 rw [List.take_of_length_le (by simp)]
set_option maxRecDepth 100000 in
set_option maxHeartbeats 2000000 in
theorem read_any (s : List UInt8) (hs : s.length ≤ 281474976710656) (w : World) (hL : LibIn w) :
   Calls Tryz.prog 135 #[.string ⟨s.toArray⟩] w fun e w' => e = .returned (readV (readS s)) ∧ Below w.heap.size w w' := by
 have hwl := wordOf_le s
 have htr := fun W => trim_any s hs W
 obtain ⟨wd, hwd⟩ : ∃ wd, wordOf s = wd := ⟨_, rfl⟩
 obtain ⟨n, hn⟩ : ∃ n, numOf s = n := ⟨_, rfl⟩
 have hno : n = numS (s.drop wd.length) := by rw [← hn, ← hwd]; rfl
 have hok : ∀ j : Nat, okR s j = (opB j && decide (wordL[j]?.getD [] = wd) && decide (writtenS ((j : Int), n) = s)) := fun j => by unfold okR; rw [hwd, hn]
 have hrs := fun (q : Nat) => @readS_some s q
 rw [hwd] at hwl htr
 rw [hn] at hrs
 have hat := fun W hW => atoi_any ⟨(s.drop wd.length).toArray⟩ (by show (s.drop wd.length).toArray.size ≤ _; simp; omega) W hW
 have hat' : ∀ W, LibIn W → Calls Tryz.prog 121 #[.string ((⟨s.toArray⟩ : ByteArray).extract wd.length s.length)] W fun e w' => ∃ er, e = .returned (.tuple #[.int .i64 n, er]) ∧ Below W.heap.size W w' := by
   intro W hW;rw [ext_drop, hno];have := hat W hW
   simpa using this
 obtain ⟨hn0, hn1⟩ : -9223372036854775808 ≤ n ∧ n ≤ 9223372036854775807 := by rw [hno]; exact numS_bounds _
 have hwr := fun (q : Nat) W (h : q < 11) hW => written_gen q n W h hn0 hn1 hW
 have HTR := Lib.hid htr
 have HLL := Lib.hid hL
 have HOK := Lib.hid hok
 have HRN := Lib.hid (@readS_none s)
 have HRS := Lib.hid hrs
 have HAT := Lib.hid hat'
 have HWR := Lib.hid hwr
 clear htr hL hwd hn hno hok hrs hat hat' hn0 hn1 hwr
 go_enter Tryz.func135, Tryz.ntmps135
 go_wp2_with fail
 refine (HTR.out _).mono ?_
 rintro e w1 ⟨rfl, hb1⟩
 have hL1 := HLL.out.up (below_step (below_alloc (Below.refl _ _) _) hb1)
 have hz : w1.heap[w.heap.size]? = some (.cells #[.int .i64 0, .int .i64 0] 91 (0, 0)) := (hb1.block _ (by simp)).trans (World.alloc_heap_new _ _)
 have hbw1 : Below w.heap.size w w1 := below_step (below_alloc (Below.refl _ _) _) hb1
 have HL1 := Lib.hid hL1
 have HZ := Lib.hid hz
 clear hL1 hz hb1
 go_wp2_with fail
 refine (HAT.out _ HL1.out).mono ?_
 rintro e w2 ⟨er, rfl, hb2⟩
 have hL2 := HL1.out.up hb2
 have hlt1 : w.heap.size < w1.heap.size := (Array.getElem?_eq_some_iff.1 HZ.out).1
 have hz2 := Lib.hid ((hb2.block _ hlt1).trans HZ.out)
 have hbw2 := below_step hbw1 hb2
 have hcell := hL2.signs
 obtain ⟨ks, hks⟩ : ∃ ks, wordS = ks := ⟨_, rfl⟩
 obtain ⟨ms, hms⟩ : ∃ ms, nameS = ms := ⟨_, rfl⟩
 unfold SignsIn at hcell
 rw [hks, hms] at hcell
 have HKS := Lib.hid hks
 clear hks hms
 have HCE := Lib.hid hcell
 have HL2 := Lib.hid hL2
 clear hL2 hcell hb2 HZ hbw1 HL1
 go_upto_region 3 with (fail)
 refine wp_region_lit (l := [_, _]) ?_
 refine wpList_load_signs rfl (.global 0) rfl rfl ks ms HCE.out ?_
 have hidxs := idx_signs ks ms
 generalize signsV ks ms = T at *
 have HIDX := Lib.hid hidxs
 clear hidxs
 go_wp2_with fail
 clear hwl HCE
 generalize ((⟨s.toArray⟩ : ByteArray).extract wd.length s.length) = ex
 have HT2 := Lib.hid hlt1
 clear hlt1
 go_loopw [21] (fun i wr => ∃ q : Nat, q ≤ 11 ∧ i = .int .i64 q ∧ Hid (∀ j, j < q → okR s j = false) ∧ Hid (LibIn wr) ∧ Hid (wr.heap[w.heap.size]? = some (.cells #[.int .i64 0, .int .i64 0] 91 (0, 0))) ∧ Below w.heap.size w wr)
   (fun i _ => 11 - (intOf i).toNat)
 case atStart => exact ⟨0, by omega, rfl, Lib.hid (fun j hj => by omega), HL2, hz2, hbw2⟩
 case round =>
   clear hbw2 HL2 hz2;obtain ⟨q, hq, rfl, hno, hLr, hzr, hbw⟩ := hrel
   by_cases hlt : q < 11
   · have hidx := HIDX.out q hlt wr
     have hokq := HOK.out q;rw [← HKS.out] at hidx;unfold wordS at hidx;generalize wordL[q]?.getD [] = kl at *;generalize ms q = nm at *;have HOQ := Lib.hid hokq;clear hokq
     have hbA : Below wr.heap.size wr ((wr.alloc (.cells #[.string ⟨kl.toArray⟩, .int .i64 nm] 102)).alloc (.cells #[.int .i64 q, .int .i64 n] 91)) := by exact BLW
     have e0 : ((wr.alloc (.cells #[.string ⟨kl.toArray⟩, .int .i64 nm] 102)).alloc (.cells #[.int .i64 q, .int .i64 n] 91)).cell? ⟨wr.heap.size, 0, none⟩ = some (.string ⟨kl.toArray⟩) := cell_alloc_keep (cell_new_at _ _ _ _ _ _ rfl rfl) _;have e1 : ((wr.alloc (.cells #[.string ⟨kl.toArray⟩, .int .i64 nm] 102)).alloc (.cells #[.int .i64 q, .int .i64 n] 91)).cell? ⟨wr.heap.size + 1, 0, none⟩ = some (.int .i64 q) := cell_new_at _ _ _ _ _ _ (by simp) rfl;have e2 : ((wr.alloc (.cells #[.string ⟨kl.toArray⟩, .int .i64 nm] 102)).alloc (.cells #[.int .i64 q, .int .i64 n] 91)).cell? ⟨wr.heap.size + 1, 1, none⟩ = some (.int .i64 n) := cell_new_at _ _ _ _ _ _ (by simp) rfl;have HBA := Lib.hid hbA;have HNO := hno;have hlz := (Array.getElem?_eq_some_iff.1 hzr.out).1;have hzA := Lib.hid ((hbA.block _ hlz).trans hzr.out);have hLA := Lib.hid (hLr.out.up hbA);have hbwA := below_step hbw hbA
     clear hbA hbw hzr hLr hno
     go_wp2_with fail
     refine (isOp_any (q : Int) _).mono ?_;rintro e w7 ⟨rfl, hw7⟩;generalize (wr.alloc (.cells #[.string ⟨kl.toArray⟩, .int .i64 nm] 102)).alloc (.cells #[.int .i64 q, .int .i64 n] 91) = w6 at *;subst hw7;clear HBA hidx
     cases hob : opB (q : Int) with
     | false =>
       have hq' := Lib.hid (by rw [HOQ.out, hob]; rfl : okR s q = false)
       clear hob;go_wp2
       go_roundw
       case rel => exact ⟨q + 1, by omega, by simp, Lib.hid (fun j hj => by
         by_cases hjq : j < q
         · exact HNO.out j hjq
         · obtain rfl : j = q := by omega
           exact hq'.out), hLA, hzA, hbwA⟩
       case measure => simp [intOf]; omega
     | true =>
       have HOB := Lib.hid hob;clear hob
       by_cases hkw : kl = wd
       · have t1 : decide (kl = wd) = true := by simpa using hkw
         have HKW := Lib.hid hkw;subst hkw
         go_wp2_with fail
         refine (HWR.out q _ hlt hLA.out).mono ?_;rintro e w8 ⟨rfl, hb8⟩;have hlz8 := (Array.getElem?_eq_some_iff.1 hzA.out).1;have hz8 := Lib.hid ((hb8.block _ hlz8).trans hzA.out);have hL8 := Lib.hid (hLA.out.up hb8);have hbw8 := below_step hbwA hb8;have e1' := cell_keep hb8 e1;have e2' := cell_keep hb8 e2;clear e0 e1 e2 hzA hLA hbwA hb8 hlz8
         have HOQ' := Lib.hid (HOQ.out.trans (by rw [HOB.out]; simp) : okR s q = decide (writtenS ((q : Int), n) = s))
         by_cases hws : writtenS ((q : Int), n) = s
         · have hq' := Lib.hid (HOQ'.out.trans (by simpa using hws) : okR s q = true)
           have hR := Lib.hid (HRS.out q hlt HNO.out hq'.out);rw [hws]
           have z0 : w8.cell? ⟨w.heap.size, 0, none⟩ = some (.int .i64 0) := by unfold World.cell?; rw [hz8.out]; rfl
           have z1 : w8.cell? ⟨w.heap.size, 1, none⟩ = some (.int .i64 0) := by unfold World.cell?; rw [hz8.out]; rfl
           have y0 : w8.frozen? ⟨w.heap.size, 0, none⟩ = false := by unfold World.frozen?; rw [hz8.out]; simp
           have y1 : w8.frozen? ⟨w.heap.size, 1, none⟩ = false := by unfold World.frozen?; rw [hz8.out]; simp
           have hbE := Lib.hid ((hbw8.setCell (p := ⟨w.heap.size, 0, none⟩) (Nat.le_refl _) (.int .i64 q)).setCell (p := ⟨w.heap.size, 1, none⟩) (Nat.le_refl _) (.int .i64 n));clear hbw8 hL8 hz8 hws;go_wp2
           refine bodyPost_ret_by (v := .tuple #[.agg #[.int .i64 q, .int .i64 n], .bool true]) (by rw [results_cell_tmp rfl]; go_simp) rfl ?_
           exact ⟨by rw [hR.out]; rfl, hbE.out⟩
         · have hq' := Lib.hid (HOQ'.out.trans (by simpa using hws) : okR s q = false)
           have t3 : decide (writtenS ((q : Int), n) = s) = false := by simpa using hws
           have HW := Lib.hid hws;generalize writtenS ((q : Int), n) = wr1 at *
           have t4 : (wr1 == s) = false := by simpa using HW.out
           go_wp2
           go_roundw
           case rel => exact ⟨q + 1, by omega, by simp, Lib.hid (fun j hj => by
             by_cases hjq : j < q
             · exact HNO.out j hjq
             · obtain rfl : j = q := by omega
               exact hq'.out), hL8, hz8, hbw8⟩
           case measure => simp [intOf]; omega
       · have t1 : decide (kl = wd) = false := by simpa using hkw
         have hq' := Lib.hid (by rw [HOQ.out, t1]; simp : okR s q = false)
         go_wp2
         go_roundw
         case rel => exact ⟨q + 1, by omega, by simp, Lib.hid (fun j hj => by
           by_cases hjq : j < q
           · exact HNO.out j hjq
           · obtain rfl : j = q := by omega
             exact hq'.out), hLA, hzA, hbwA⟩
         case measure => simp [intOf]; omega
   · obtain rfl : q = 11 := by omega
     have hR := Lib.hid (HRN.out hno.out)
     have z0 : wr.cell? ⟨w.heap.size, 0, none⟩ = some (.int .i64 0) := by unfold World.cell?; rw [hzr.out]; rfl
     have z1 : wr.cell? ⟨w.heap.size, 1, none⟩ = some (.int .i64 0) := by unfold World.cell?; rw [hzr.out]; rfl
     have y0 : wr.frozen? ⟨w.heap.size, 0, none⟩ = false := by unfold World.frozen?; rw [hzr.out]; simp
     have y1 : wr.frozen? ⟨w.heap.size, 1, none⟩ = false := by unfold World.frozen?; rw [hzr.out]; simp
     have hbE := Lib.hid ((hbw.setCell (p := ⟨w.heap.size, 0, none⟩) (Nat.le_refl _) (.int .i64 0)).setCell (p := ⟨w.heap.size, 1, none⟩) (Nat.le_refl _) (.int .i64 0));clear hbw hzr hLr hno;go_wp2
     refine bodyPost_ret_by (v := .tuple #[.agg #[.int .i64 0, .int .i64 0], .bool false]) (by rw [results_cell_tmp rfl]; go_simp) rfl ?_
     exact ⟨by rw [hR.out]; rfl, hbE.out⟩
end Go.Proofs.YtbmcngoeinginaaGreatDoor
namespace Go.Proofs.YtbmcngoeinginaaGreatDoor
open Go Go.RowKit Go.Sort Go.Lib
def wordsOf (s : List UInt8) : List (List UInt8) := splitN s [32] 9
def readAll : List (List UInt8) → Option (List (Int × Int))
 | [] => some []
 | x :: r => match readS x with
   | none => none
   | some y => (readAll r).map fun t => y :: t
def parseS (s : List UInt8) : List (Int × Int) × Int :=
 match readAll (wordsOf s) with
 | none => ([], 20)
 | some p => if validP p 8 6 4 = true then (p, 0) else ([], 20)
theorem splitK_le (sep : List UInt8) : ∀ (k : Nat) (s x : List UInt8), x ∈ splitK sep 0 k s → x.length ≤ s.length
 | 0, s, x, h => by unfold splitK at h; rw [List.mem_singleton.1 h]; exact Nat.le_refl _
 | k + 1, s, x, h => by
   unfold splitK at h
   split at h
   · rw [List.mem_singleton.1 h]; exact Nat.le_refl _
   · rcases List.mem_cons.1 h with rfl | h
     · rw [List.length_take]; omega
     · have := splitK_le sep k _ x h
       rw [List.length_drop] at this
       omega
theorem words_eq (s : List UInt8) : (splitB ⟨#[32]⟩ 0 (min 9 ((⟨s.toArray⟩ : ByteArray).size + 1) - 1) ⟨s.toArray⟩).map (·.data.toList) = wordsOf s := by
 rw [splitB_data]
 rfl
theorem words_n (s : List UInt8) : (wordsOf s).length ≤ 9 ∧ (splitB ⟨#[32]⟩ 0 (min 9 ((⟨s.toArray⟩ : ByteArray).size + 1) - 1) ⟨s.toArray⟩).length = (wordsOf s).length ∧ (wordsOf s).length ≤ min 9 ((⟨s.toArray⟩ : ByteArray).size + 1) := by
 have h := words_eq s
 have h1 := congrArg List.length h
 rw [List.length_map] at h1
 have h2 := splitB_length_le ⟨#[32]⟩ 0 (min 9 ((⟨s.toArray⟩ : ByteArray).size + 1) - 1) ⟨s.toArray⟩
 omega
theorem words_le (s : List UInt8) (j : Nat) : ((wordsOf s)[j]?.getD []).length ≤ s.length := by
 cases h : (wordsOf s)[j]? with
 | none => simp
 | some x => exact splitK_le _ _ _ _ (List.mem_of_getElem? h)
theorem words_cell (s : List UInt8) (w : World) (j : Nat) (hj : j < (wordsOf s).length) :
   (w.alloc (.cells (cellsOf (splitB ⟨#[32]⟩ 0 (min 9 ((⟨s.toArray⟩ : ByteArray).size + 1) - 1) ⟨s.toArray⟩) (min 9 ((⟨s.toArray⟩ : ByteArray).size + 1))) 9)).cell? ⟨w.heap.size, j, none⟩ = some (.string ⟨((wordsOf s)[j]?.getD []).toArray⟩) := by
 have h := words_eq s
 rw [World.cell?_alloc_new]
 unfold cellsOf
 rw [← h] at hj ⊢
 rw [List.length_map] at hj
 rw [List.getElem?_toArray, List.getElem?_append_left (by simpa using hj), List.getElem?_map, List.getElem?_map, List.getElem?_eq_getElem hj]
 simp
set_option maxRecDepth 100000 in
set_option maxHeartbeats 2000000 in
theorem parse_any (s : List UInt8) (hs : s.length < 4294967281) (w : World) (hL : LibIn w) :
   Calls Tryz.prog 122 #[.string ⟨s.toArray⟩] w fun e w' => ∃ v, e = .returned (.tuple #[v, .int .i64 (parseS s).2]) ∧ OwnStp w.heap.size w' v (parseS s).1 ∧ Below w.heap.size w w' := by
 obtain ⟨m, hm⟩ := hL.max
 have hsp := Tryz.strings_SplitN ⟨s.toArray⟩ ⟨#[32]⟩ 9 m w (by show s.toArray.size < _; simpa using hs) hm (by decide) (by omega) (by omega)
 obtain ⟨hn9, hnl, hnc⟩ := words_n s
 rw [hnl] at hsp
 have hcl := words_cell s w
 have hwl := words_le s
 have hpS : parseS s = (match readAll (wordsOf s) with | none => ([], 20) | some p => if validP p 8 6 4 = true then (p, 0) else ([], 20)) := rfl
 generalize hCL : Obj.cells (cellsOf (splitB ⟨#[32]⟩ 0 (min 9 ((⟨s.toArray⟩ : ByteArray).size + 1) - 1) ⟨s.toArray⟩) (min 9 ((⟨s.toArray⟩ : ByteArray).size + 1))) 9 = ob at hsp hcl
 generalize min 9 ((⟨s.toArray⟩ : ByteArray).size + 1) = cp at hsp
 generalize wordsOf s = ws at *
 generalize parseS s = R at *
 have HSP := Lib.hid hsp
 have HPS := Lib.hid hpS
 have HWL := Lib.hid hwl
 clear hsp hpS hwl hm hnl hnc hCL
 obtain ⟨i0, hi, hz0, hz1, hz2⟩ := info_parts info_step
 have hbA : Below w.heap.size w (w.alloc ob) := below_alloc (Below.refl _ _) _
 have hsA : (w.alloc ob).heap.size = w.heap.size + 1 := World.size_alloc _ _
 have HLA := Lib.hid (hL.up hbA)
 clear hL
 go_enter Tryz.func122, Tryz.ntmps122
 go_wp2_with fail
 refine HSP.out.mono ?_
 rintro e w1 ⟨rfl, rfl⟩
 generalize w.alloc ob = w1 at *
 have HCL := Lib.hid hcl
 have HSA := Lib.hid hsA
 clear hcl hsA HSP
 go_wp2_with fail
 go_loopw [4, 12] (fun p i wr => ∃ (q : Nat) (done : List (Int × Int)), q ≤ ws.length ∧ i = .int .i64 q ∧ Hid (readAll ws = (readAll (ws.drop q)).map fun t => done ++ t) ∧ Hid (done.length = q) ∧ OwnStp w1.heap.size wr p done ∧ Below w1.heap.size w1 wr)
   (fun _ i _ => ws.length - (intOf i).toNat)
 case atStart => exact ⟨0, [], by omega, rfl, Lib.hid (by simp), Lib.hid rfl, World.ownsRow_nil _ _ _ _, Below.refl _ _⟩
 case round =>
   obtain ⟨q, done, hq, rfl, hra, hdl, ho, hbw⟩ := hrel
   by_cases hlt : q < ws.length
   · have hc := cell_keep hbw (HCL.out q hlt)
     have hLr := Lib.hid (HLA.out.up hbw);have hxl := HWL.out q
     have hdr : ws.drop q = (ws[q]?.getD []) :: ws.drop (q + 1) := by
       rw [List.drop_eq_getElem_cons hlt, List.getElem?_eq_getElem hlt]; rfl
     have HRA := Lib.hid (hra.out.trans (by rw [hdr]));clear hdr hra;generalize ws[q]?.getD [] = x at *
     go_wp2_with fail
     refine (read_any x (by omega) _ hLr.out).mono ?_;rintro e w2 ⟨rfl, hb2⟩;have hbw2 := below_step hbw hb2;have ho2 := ho.below hb2;clear ho hbw hc hLr
     cases hr : readS x with
     | none =>
       have hE := Lib.hid (HRA.out.trans (by unfold readAll; rw [hr]; rfl) : readAll ws = none)
       unfold readV;go_wp2;refine bodyPost_ret (results_tmp2 rfl _ _ _) rfl ?_
       refine ⟨_, by rw [HPS.out, hE.out]; rfl, by rw [HPS.out, hE.out]; exact World.ownsRow_nil _ _ _ _, ?_⟩
       exact hbA.trans ((below_step hbw2 (below_alloc (Below.refl _ _) _)).mono (by have := HSA.out; omega))
     | some y =>
       have hE := Lib.hid (HRA.out.trans (by rw [readAll, hr]; simp [Option.map_map, Function.comp_def]) : readAll ws = (readAll (ws.drop (q + 1))).map fun t => (done ++ [y]) ++ t)
       unfold readV;obtain ⟨y1, y2⟩ := y;dsimp only;have hd9 := hdl.out
       have hA3 : Below w2.heap.size w2 ((w2.alloc (.cells #[.int .i64 y1, .int .i64 y2] 91)).alloc (.cells #[.int .i64 y1, .int .i64 y2] 91)) := by exact BLW
       have HO3 := Lib.hid (ho2.below hA3)
       have HNW := Lib.hid (by
         intro j u hj
         match j, hj with
         | 0, hj => cases hj; exact cell_new_at _ _ _ _ _ _ (by simp) rfl
         | 1, hj => cases hj; exact cell_new_at _ _ _ _ _ _ (by simp) rfl
         : ∀ (j : Nat) (u : Value), [Value.int .i64 y1, .int .i64 y2][j]? = some u → ((w2.alloc (.cells #[.int .i64 y1, .int .i64 y2] 91)).alloc (.cells #[.int .i64 y1, .int .i64 y2] 91)).cell? ((⟨w2.heap.size + 1, 0, none⟩ : Addr).add j) = some u)
       go_wp2_with (at_builtin; go_loud (refine wpList_append_own_at _ rfl (.tmp 23) (.tmp 25) 68 rfl w1.heap.size 91 i0 (.agg #[.int .i64 0, .int .i64 0]) 2 16 Tryz.underlying68 hi hz0 hz1 hz2 rfl (by decide) _ done.length _ rfl HO3.out ⟨w2.heap.size + 1, 0, none⟩ 1 1 [.int .i64 y1, .int .i64 y2] rfl rfl HNW.out (by simp [Value.oneCell']) (by unfold maxLen; omega) (by omega) (Nat.le_trans hbw2.size hA3.size) ?_; intro v9 w9 hown9 hgrow9 _ hat9))
       have ho9 : OwnStp w1.heap.size w9 v9 (done ++ [(y1, y2)]) := by
         unfold OwnStp;rw [flatP_app, List.length_append];exact hown9
       have hb9 : Below w1.heap.size w1 w9 := (hbw2.trans (hA3.mono hbw2.size)).trans ((Alters.of_grown hgrow9).below (Nat.le_trans hbw2.size hA3.size) (fun k hk => (World.ownsRow.lt HO3.out k hk.symm).1))
       have hl9 : (done ++ [(y1, y2)]).length = q + 1 := by rw [List.length_append, hdl.out]; rfl
       have HL9 := Lib.hid hl9;clear hown9 hgrow9 hat9 hl9
       go_roundw
       case rel => exact ⟨q + 1, done ++ [(y1, y2)], by omega, by simp, hE, HL9, ho9, hb9⟩
       case measure => simp [intOf]; omega
   · obtain rfl : q = ws.length := by omega
     have hE := Lib.hid (hra.out.trans (by rw [List.drop_length]; simp [readAll]) : readAll ws = some done)
     obtain ⟨pa, pc, rfl, hP⟩ := ho.prg;have hpr := printable_any done pa pc wr.heap.size wr (Nat.le_refl _) hP (HLA.out.up hbw).signs;have HPR := Lib.hid hpr;have HO := Lib.hid ho;clear hpr hP hra ho
     go_wp2_with fail
     refine HPR.out.mono ?_;rintro e w8 ⟨rfl, hb8⟩
     have hb9 := hbA.trans ((below_step hbw hb8).mono (by have := HSA.out; omega))
     cases hv : validP done 8 6 4 with
     | false =>
       have HR := Lib.hid (by rw [HPS.out, hE.out]; simp [hv] : R = ([], 20))
       clear hv;go_wp2;refine bodyPost_ret (results_tmp2 rfl _ _ _) rfl ?_
       exact ⟨_, by rw [HR.out]; rfl, by rw [HR.out]; exact World.ownsRow_nil _ _ _ _, hb9⟩
     | true =>
       have HR := Lib.hid (by rw [HPS.out, hE.out]; simp [hv] : R = (done, 0))
       clear hv;go_wp2;refine bodyPost_ret (results_tmp2 rfl _ _ _) rfl ?_
       exact ⟨_, by rw [HR.out]; rfl, by rw [HR.out]; exact (HO.out.below hb8).mono (by have := HSA.out; omega), hb9⟩
end Go.Proofs.YtbmcngoeinginaaGreatDoor
