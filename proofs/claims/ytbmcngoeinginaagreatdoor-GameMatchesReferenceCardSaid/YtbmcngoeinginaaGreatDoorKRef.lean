/-
 What the reference writes for a program, against what the program writes.
 Of the reference: in, name, Find.
 Of the reference: Decimal, numbers, result.
 Of the reference: line, the text of a clause.
 Of the reference: in, Step, Count, Valid, Takes, Leads.
 Of the reference: Count, Valid, Takes.
 Of the reference: kind.
 Of the reference: clause.
 Valid of the reference, for all boards.
 Of the reference: Valid, for every game of moderate size.
 Of the reference: Word, for steps with small numbers.
 Of the reference: Print.
 Of the reference: Print, for every game of moderate size.
-/
import Derived.Test.YtbmcngoeinginaaGreatDoorTk
import Derived.Test.YtbmcngoeinginaaGreatDoorCPro
import Derived.Test.YtbmcngoeinginaaGreatDoorCVal
import Derived.Test.YtbmcngoeinginaaGreatDoorCWrt
import Derived.Deep.Upon
import Derived.Test.YtbmcngoeinginaaGreatDoorCBas
import Derived.Deep.QuietTactic
import Derived.Deep.RegionHeld3
import Derived.Laws.BytesArg
import Derived.IntWalk
namespace Go.Proofs.YtbmcngoeinginaaGreatDoor
open Go Go.RowKit Go.Sort Go.Lib
def rwordS (x : Int × Int) : List UInt8 := wordL[x.1.toNat]?.getD [] ++ if 3 ≤ x.1 ∧ x.1 ≤ 6 then [] else [UInt8.ofNat (48 + x.2.toNat)]
def rwB (op n : Nat) : Bool := !(okStep 8 6 4 ((op : Int), (n : Int))) || decide (rwordS ((op : Int), (n : Int)) = writtenS ((op : Int), (n : Int)))
theorem rw_all : ((List.range 11).all fun op => (List.range 8).all fun n => rwB op n) = true := by decide +kernel
theorem rword_nat {op n : Nat} (h11 : op < 11) (h8 : n < 8) (hok : okStep 8 6 4 ((op : Int), (n : Int)) = true) : rwordS ((op : Int), (n : Int)) = writtenS ((op : Int), (n : Int)) := by
 have h := List.all_eq_true.1 (List.all_eq_true.1 rw_all op (by simpa using h11)) n (by simpa using h8)
 unfold rwB at h
 rw [hok] at h
 simpa using h
theorem ok_nat {x : Int × Int} (h : okStep 8 6 4 x = true) : ∃ op n : Nat, x = ((op : Int), (n : Int)) ∧ 0 < op ∧ op < 11 ∧ n < 8 := by
 obtain ⟨a, b⟩ := x
 unfold okStep at h
 simp only [Bool.and_eq_true, decide_eq_true_eq] at h
 obtain ⟨op, rfl, h0, h11⟩ := opB_nat h.1
 obtain ⟨n, rfl⟩ := Int.eq_ofNat_of_zero_le h.2.1
 refine ⟨op, n, rfl, h0, h11, ?_⟩
 have h2 := h.2.2
 have hm := name_range ((op : Int)).toNat
 unfold limS at h2
 split at h2
 · omega
 · split at h2
   · omega
   · split at h2 <;> omega
theorem rword_ok {x : Int × Int} (h : okStep 8 6 4 x = true) : rwordS x = writtenS x := by
 obtain ⟨op, n, rfl, _, h11, h8⟩ := ok_nat h
 exact rword_nat h11 h8 h
theorem ok_all' {P : List (Int × Int)} (h : validP P 8 6 4 = true) : ∀ x ∈ P, okStep 8 6 4 x = true := by
 unfold validP at h
 simp only [Bool.and_eq_true, List.all_eq_true] at h
 exact h.2.2.1
def rprintS (l : List (Int × Int)) : List UInt8 := if validP l 8 6 4 = true then join (l.map rwordS) [32] else []
theorem rprint_eq (l : List (Int × Int)) : rprintS l = printS l := by
 unfold rprintS printS
 split
 · rename_i h
   rw [List.map_congr_left (fun x hx => rword_ok (ok_all' h x hx))]
 · rfl
end Go.Proofs.YtbmcngoeinginaaGreatDoor
namespace Go.Proofs.YtbmcngoeinginaaGreatDoor
open Go Go.RowKit
theorem in3_any (n lo hi : Int) (w : World) : Calls Tryz.prog 42 #[.int .i64 n, .int .i64 lo, .int .i64 hi] w fun e w' => e = .returned (.bool (decide (lo ≤ n) && decide (n ≤ hi))) ∧ w' = w := by
 by_cases h : lo ≤ n
 · have t : decide (lo ≤ n) = true := by simpa using h
   rw [t];go_enter Tryz.func42, Tryz.ntmps42;go_wp2
   go_ret
   exact ⟨by simp, rfl⟩
 · have t : decide (lo ≤ n) = false := by simpa using h
   rw [t];go_enter Tryz.func42, Tryz.ntmps42;go_wp2
   go_ret
   exact ⟨by simp, rfl⟩
theorem byte3 (s : List UInt8) (q : Nat) (h : q < s.length) : ∀ h2 : q < (⟨s.toArray⟩ : ByteArray).size, (⟨s.toArray⟩ : ByteArray)[q] = s[q]?.getD 0 := fun h2 => by
 show s.toArray[q] = _
 rw [List.getElem_toArray, List.getElem?_eq_getElem h]; rfl
theorem all_none {α : Type} {p : α → Bool} {l : List α} {q : Nat} (h : q < l.length) (hp : p (l[q]'h) = false) : l.all p = false := List.all_eq_false.2 ⟨l[q], List.getElem_mem h, by rw [hp]; simp⟩
theorem all_each {p : UInt8 → Bool} {l : List UInt8} (h : ∀ j, j < l.length → p (l[j]?.getD 0) = true) : l.all p = true := by
 rw [List.all_eq_true]
 intro x hx
 obtain ⟨j, hj, rfl⟩ := List.mem_iff_getElem.1 hx
 have := h j hj
 rwa [List.getElem?_eq_getElem hj] at this
set_option maxRecDepth 100000 in
set_option maxHeartbeats 2000000 in
theorem rname_any (s : List UInt8) (w : World) : Calls Tryz.prog 80 #[.string ⟨s.toArray⟩] w fun e w' => e = .returned (.bool (nameB s)) ∧ Below w.heap.size w w' := by
 by_cases h1 : s.length < 1
 · have t1 : decide ((s.length : Int) < 1) = true := by rw [decide_eq_true_eq]; omega
   have HO := Lib.hid (show nameB s = false by unfold nameB; simp; omega)
   go_enter Tryz.func80, Tryz.ntmps80;go_wp2
   go_ret
   exact ⟨by rw [HO.out]; rfl, Below.refl _ _⟩
 have t1 : decide ((s.length : Int) < 1) = false := by rw [decide_eq_false_iff_not]; omega
 by_cases h2 : 8 < s.length
 · have t2 : decide ((8 : Int) < (s.length : Int)) = true := by rw [decide_eq_true_eq]; omega
   have HO := Lib.hid (show nameB s = false by unfold nameB; simp; omega)
   go_enter Tryz.func80, Tryz.ntmps80;go_wp2
   go_ret
   exact ⟨by rw [HO.out]; rfl, Below.refl _ _⟩
 have t2 : decide ((8 : Int) < (s.length : Int)) = false := by rw [decide_eq_false_iff_not]; omega
 have HN : Hid (nameB s = s.all letB) := Lib.hid (by
   unfold nameB
   have a1 : decide (1 ≤ s.length) = true := by rw [decide_eq_true_eq]; omega
   have a2 : decide (s.length ≤ 8) = true := by rw [decide_eq_true_eq]; omega
   rw [a1, a2]; rfl)
 go_enter Tryz.func80, Tryz.ntmps80
 go_wp2
 go_loopw [3] (fun i wr => ∃ q : Nat, q ≤ s.length ∧ i = .int .i64 (q : Int) ∧ Hid (∀ j, j < q → letB (s[j]?.getD 0) = true) ∧ Below w.heap.size w wr) (fun i _ => s.length - (intOf i).toNat)
 case atStart => exact ⟨0, Nat.zero_le _, rfl, Lib.hid (fun j hj => absurd hj (Nat.not_lt_zero _)), Below.refl _ _⟩
 case round =>
   obtain ⟨q, hq, rfl, hall, hb⟩ := hrel;have HB := Lib.hid hb;clear hb
   by_cases hlt : q < s.length
   · have t3 : decide ((q : Int) < (s.length : Int)) = true := by rw [decide_eq_true_eq]; omega
     have hx := byte3 s q hlt
     have HXB : Hid (s[q]?.getD 0 = s[q]'hlt) := Lib.hid (by rw [List.getElem?_eq_getElem hlt]; rfl)
     by_cases b1 : (s[q]?.getD 0).toNat < 97
     · have hT : ∀ h2 : q < (⟨s.toArray⟩ : ByteArray).size, decide (((⟨s.toArray⟩ : ByteArray)[q].toNat : Int) < 97) = true := fun h2 => by rw [hx h2, decide_eq_true_eq]; omega
       have HO := Lib.hid (show nameB s = false by
         rw [HN.out];refine all_none hlt ?_
         rw [← HXB.out]; unfold letB; rw [Bool.and_eq_false_iff]; left; rw [decide_eq_false_iff_not]; omega)
       clear hx b1;go_wp2
       go_ret
       exact ⟨by rw [HO.out]; rfl, HB.out⟩
     have hT : ∀ h2 : q < (⟨s.toArray⟩ : ByteArray).size, decide (((⟨s.toArray⟩ : ByteArray)[q].toNat : Int) < 97) = false := fun h2 => by rw [hx h2, decide_eq_false_iff_not]; omega
     by_cases b2 : 122 < (s[q]?.getD 0).toNat
     · have hU : ∀ h2 : q < (⟨s.toArray⟩ : ByteArray).size, decide ((122 : Int) < ((⟨s.toArray⟩ : ByteArray)[q].toNat : Int)) = true := fun h2 => by rw [hx h2, decide_eq_true_eq]; omega
       have HO := Lib.hid (show nameB s = false by
         rw [HN.out];refine all_none hlt ?_
         rw [← HXB.out]; unfold letB; rw [Bool.and_eq_false_iff]; right; rw [decide_eq_false_iff_not]; omega)
       clear hx b1 b2;go_wp2
       go_ret
       exact ⟨by rw [HO.out]; rfl, HB.out⟩
     have hU : ∀ h2 : q < (⟨s.toArray⟩ : ByteArray).size, decide ((122 : Int) < ((⟨s.toArray⟩ : ByteArray)[q].toNat : Int)) = false := fun h2 => by rw [hx h2, decide_eq_false_iff_not]; omega
     have HL := Lib.hid (show letB (s[q]?.getD 0) = true by unfold letB; rw [Bool.and_eq_true, decide_eq_true_eq, decide_eq_true_eq]; omega)
     clear hx b1 b2;go_wp2
     go_roundw
     case rel => exact ⟨q + 1, by omega, by go_num, Lib.hid (fun j hj => by
       by_cases e : j = q
       · rw [e]; exact HL.out
       · exact hall.out j (by omega)), HB.out⟩
     case measure => simp [intOf]; omega
   · obtain rfl : q = s.length := by omega
     have HO := Lib.hid (show nameB s = true by rw [HN.out]; exact all_each hall.out)
     go_wp2
     go_ret
     exact ⟨by rw [HO.out]; rfl, HB.out⟩
set_option maxRecDepth 100000 in
set_option maxHeartbeats 2000000 in
theorem rfind_any (g : GameD) (x : GPl) (t : List UInt8) (N : Nat) (w : World) (hl : g.kinds.length ≤ 2000) (hN : N ≤ w.heap.size) (hK : KindsIn N w x.ak g.kinds) :
   Calls Tryz.prog 17 #[.agg (g.cells x), .string ⟨t.toArray⟩] w fun e w' => e = .returned (.int .i64 (findD g.kinds t)) ∧ Below w.heap.size w w' := by
 have hb := below_alloc (Below.refl _ w) (.cells (g.cells x) 38)
 have hbox : (w.alloc (.cells (g.cells x) 38)).heap[w.heap.size]? = some (.cells (g.cells x) 38 (0, 0)) := World.alloc_heap_new _ _
 unfold GameD.cells at *
 go_enter Tryz.func17, Tryz.ntmps17
 go_upto_region 1 with (fail)
 generalize w.alloc (.cells #[.int .i64 g.b.cells, .slice x.an g.b.next.length x.cn, .slice x.at_ g.b.turn.length x.ct, .slice x.ak g.kinds.length x.ck, .int .i64 g.rights, .bool g.must, .slice x.ac g.clauses.length x.cc, .int .i64 g.blocked, .int .i64 g.endless] 38) = w1 at *
 have q3 := bx_cell hbox 3 rfl
 have hK1 := hK.up hN hb
 have hN1 := Nat.le_trans hN hb.size
 have HB := Lib.hid hb
 clear hb hbox hK hN
 go_wp2
 go_loopw [5] (fun i wr => ∃ q : Nat, q ≤ g.kinds.length ∧ i = .int .i64 (q : Int) ∧ Hid (∀ j (hj : j < q) (hj2 : j < g.kinds.length), decide ((g.kinds[j]'hj2).name = t) = false) ∧ Below w1.heap.size w1 wr) (fun i _ => g.kinds.length - (intOf i).toNat)
 case atStart => exact ⟨0, Nat.zero_le _, rfl, Lib.hid (fun j hj => absurd hj (Nat.not_lt_zero _)), Below.refl _ _⟩
 case round =>
   obtain ⟨q, hq, rfl, hall, hb⟩ := hrel;have c3 := cell_keep hb q3
   by_cases hlt : q < g.kinds.length
   · obtain ⟨b, off, aj, cj, hxa, hbn, z0, z1, _, z2⟩ := (hK1.up hN1 hb).at_ hlt
     rw [hxa] at c3
     have t3 : decide ((q : Int) < (g.kinds.length : Int)) = true := by rw [decide_eq_true_eq]; omega
     have b3 : (0 : Int) ≤ (q : Int) := by omega
     have b4 : (q : Int) < (g.kinds.length : Int) := by omega
     have HBR := Lib.hid hb;clear hb z1 z2
     by_cases hx : (g.kinds[q]'hlt).name = t
     · have HO : Hid (findD g.kinds t = (q : Int)) := Lib.hid (idxD_at (p := fun k : KindD => decide (k.name = t)) hlt (by simpa using hx) (fun j hj => hall.out j hj (by omega)))
       have tb : ((g.kinds[q]'hlt).name == t) = true := by simpa using hx
       clear hx;generalize (g.kinds[q]'hlt).name = nm at *;go_wp2
       go_ret
       exact ⟨by rw [HO.out]; rfl, below_step HB.out HBR.out⟩
     · have HX : Hid (∀ h : q < g.kinds.length, decide ((g.kinds[q]'h).name = t) = false) := Lib.hid (fun _ => by simpa using hx)
       have tb : ((g.kinds[q]'hlt).name == t) = false := by simpa using hx
       clear hx;generalize (g.kinds[q]'hlt).name = nm at *;go_wp2
       go_roundw
       case rel =>
         refine ⟨q + 1, by omega, by go_num, Lib.hid (fun j hj hj2 => ?_), HBR.out⟩
         by_cases hjq : j < q
         · exact hall.out j hjq hj2
         · obtain rfl : j = q := by omega
           exact HX.out hj2
       case measure => simp [intOf]; omega
   · obtain rfl : q = g.kinds.length := by omega
     have HO : Hid (findD g.kinds t = -1) := Lib.hid (idxD_none (p := fun k : KindD => decide (k.name = t)) (all_prefix (p := fun k : KindD => decide (k.name = t)) (fun j hj => hall.out j hj hj)));have HBR := Lib.hid hb;clear hb;go_wp2
     go_ret
     exact ⟨by rw [HO.out]; rfl, below_step HB.out HBR.out⟩
end Go.Proofs.YtbmcngoeinginaaGreatDoor
namespace Go.Proofs.YtbmcngoeinginaaGreatDoor
open Go Go.RowKit Go.Lib
theorem dig10 {d : Nat} (h : d < 10) : (⟨#[48, 49, 50, 51, 52, 53, 54, 55, 56, 57]⟩ : ByteArray).extract d (d + 1) = ⟨#[UInt8.ofNat (48 + d)]⟩ := by
 have : d = 0 ∨ d = 1 ∨ d = 2 ∨ d = 3 ∨ d = 4 ∨ d = 5 ∨ d = 6 ∨ d = 7 ∨ d = 8 ∨ d = 9 := by omega
 rcases this with rfl | rfl | rfl | rfl | rfl | rfl | rfl | rfl | rfl | rfl <;> decide
theorem decD_len (n : Nat) (h : n ≤ 1000000000) : (decDigits n).length ≤ 21 := by
 have := itoa_length_le (n : Int) (by omega) (by omega)
 rwa [itoa_nonneg] at this
set_option maxRecDepth 100000 in
set_option maxHeartbeats 2000000 in
theorem rdec_nat (n : Nat) : n ≤ 1000000000 → ∀ w : World, Calls Tryz.prog 60 #[.int .i64 (n : Int)] w fun e w' => e = .returned (.string ⟨(decDigits n).toArray⟩) ∧ w' = w := by
 induction n using Nat.strongRecOn with
 | _ n ih =>
   intro h w;have e1 : (n : Int).tmod 10 = ((n % 10 : Nat) : Int) := rfl;have e2 : (n : Int).tdiv 10 = ((n / 10 : Nat) : Int) := rfl
   have hd : n % 10 < 10 := by omega
   have hx := dig10 hd
   have t0 : decide ((n : Int) < 0) = false := by rw [decide_eq_false_iff_not]; omega
   obtain ⟨d, hde⟩ : ∃ d, n % 10 = d := ⟨_, rfl⟩;obtain ⟨m, hme⟩ : ∃ m, n / 10 = m := ⟨_, rfl⟩;rw [hde] at e1 hx hd;rw [hme] at e2;have y0 : IntKind.i64.wrap (d : Int) = (d : Int) := IntWalk.i64_in _ (by omega);have y1 : IntKind.i64.wrap ((d : Int) + 1) = (d : Int) + 1 := IntWalk.i64_in _ (by omega);have y2 : IntKind.i64.wrap (m : Int) = (m : Int) := IntWalk.i64_in _ (by omega)
   by_cases h10 : n < 10
   · have t1 : ((m : Int) != 0) = false := by simp; omega
     have t1' : m = 0 := by omega
     have HO : Hid (decDigits n = [UInt8.ofNat (48 + d)]) := Lib.hid (by rw [decDigits_one h10, show n = d from by omega]);clear ih hde hme;subst t1';go_enter Tryz.func60, Tryz.ntmps60;go_wp2
     go_ret
     exact ⟨by rw [HO.out]; simp, rfl⟩
   · have t1 : ((m : Int) != 0) = true := by simp; omega
     have HO : Hid (decDigits n = decDigits m ++ [UInt8.ofNat (48 + d)]) := Lib.hid (by rw [decDigits, dif_neg h10, hme, hde]);have HI := Lib.hid (ih m (by omega) (by omega) w);have hln := decD_len m (by omega)
     have hs : ¬ 9223372036854775807 < (decDigits m).length + 1 := by omega
     clear ih hde hme;generalize decDigits m = dm at *;go_enter Tryz.func60, Tryz.ntmps60
     go_wp2_with fail
     refine HI.out.mono ?_;rintro e w2 ⟨rfl, e0⟩;subst w2;go_wp2
     go_ret
     exact ⟨by rw [HO.out]; simp [ByteArray.ext_iff], rfl⟩
theorem rdec_neg (w : World) : Calls Tryz.prog 60 #[.int .i64 (-1)] w fun e w' => e = .returned (.string ⟨#[45, 49]⟩) ∧ w' = w := by
 go_enter Tryz.func60, Tryz.ntmps60
 go_wp2
 go_ret
 exact ⟨by rfl, rfl⟩
theorem rdec_any (n : Int) (h : -1 ≤ n ∧ n ≤ 1000000000) (w : World) : Calls Tryz.prog 60 #[.int .i64 n] w fun e w' => e = .returned (.string ⟨(itoa n).toArray⟩) ∧ w' = w := by
 by_cases h1 : n = -1
 · subst h1
   have : itoa (-1) = [45, 49] := by decide +kernel
   rw [this];exact rdec_neg w
 · obtain ⟨m, rfl⟩ := Int.eq_ofNat_of_zero_le (show 0 ≤ n by omega)
   rw [itoa_nonneg];exact rdec_nat m (by omega) w
def spaced (xs : List (List UInt8)) : List UInt8 := xs.flatMap fun x => 32 :: x
theorem join_spaced (x : List UInt8) (xs : List (List UInt8)) : Lib.join (x :: xs) [32] = x ++ spaced xs := by
 unfold Lib.join spaced
 induction xs generalizing x with
 | nil => simp [List.intercalate]
 | cons y ys ih =>
   have := ih y;simp only [List.intercalate, List.intersperse, List.flatten_cons] at this ⊢;rw [this]
   simp
theorem spaced_snoc (xs : List (List UInt8)) (x : List UInt8) : spaced (xs ++ [x]) = spaced xs ++ 32 :: x := by simp [spaced]
theorem spaced_len (xs : List (List UInt8)) (h : ∀ x ∈ xs, x.length ≤ 21) : (spaced xs).length ≤ 22 * xs.length := by
 induction xs with
 | nil => simp [spaced]
 | cons x xs ih =>
   have h1 := h x (by simp);have h2 := ih (fun y hy => h y (by simp [hy]));simp only [spaced, List.flatMap_cons, List.length_append, List.length_cons] at h2 ⊢
   omega
theorem itoa_21 {n : Int} (h : -1 ≤ n ∧ n ≤ 1000000000) : (itoa n).length ≤ 21 := itoa_length_le n (by omega) (by omega)
set_option maxRecDepth 100000 in
set_option maxHeartbeats 2000000 in
theorem rnums_any (wd : List UInt8) (l : List Int) (a : Option Addr) (c N : Nat) (w : World) (hw : wd.length ≤ 100) (hl : l.length ≤ 1000) (hx : ∀ x ∈ l, -1 ≤ x ∧ x ≤ 1000000000) (hN : N ≤ w.heap.size) (hI : Ints N w a l) :
   Calls Tryz.prog 33 #[.string ⟨wd.toArray⟩, .slice a l.length c] w fun e w' => e = .returned (.string ⟨(lineT (wd :: l.map itoa)).toArray⟩) ∧ Below w.heap.size w w' := by
 have HO : Hid (lineT (wd :: l.map itoa) = wd ++ spaced (l.map itoa) ++ [10]) := Lib.hid (by unfold lineT; rw [join_spaced])
 go_enter Tryz.func33, Tryz.ntmps33
 go_wp2
 go_loopw [0, 5] (fun o i wr => ∃ q : Nat, q ≤ l.length ∧ i = .int .i64 (q : Int) ∧ o = .string ⟨(wd ++ spaced ((l.take q).map itoa)).toArray⟩ ∧ Below w.heap.size w wr) (fun _ i _ => l.length - (intOf i).toNat)
 case atStart => exact ⟨0, Nat.zero_le _, rfl, by simp [spaced], Below.refl _ _⟩
 case round =>
   obtain ⟨q, hq, rfl, rfl, hbw⟩ := hrel
   by_cases hlt : q < l.length
   · obtain ⟨b, off, hab, hbN, hc⟩ := (hI.up hN hbw).at_ hlt
     subst hab
     have t3 : decide ((q : Int) < (l.length : Int)) = true := by rw [decide_eq_true_eq]; omega
     have b3 : (0 : Int) ≤ (q : Int) := by omega
     have b4 : (q : Int) < (l.length : Int) := by omega
     have hxq := hx _ (List.getElem_mem hlt)
     have hge : l[q]?.getD 0 = l[q]'hlt := by rw [List.getElem?_eq_getElem hlt]; rfl
     have HS : Hid (wd ++ spaced ((l.take (q + 1)).map itoa) = (wd ++ spaced ((l.take q).map itoa)) ++ 32 :: itoa (l[q]'hlt)) := Lib.hid (by
       rw [List.take_add_one, List.getElem?_eq_getElem hlt, Option.toList_some, List.map_append, List.map_cons, List.map_nil, spaced_snoc, List.append_assoc])
     have hlen : (wd ++ spaced ((l.take q).map itoa)).length ≤ 100 + 22 * 1000 := by
       have := spaced_len ((l.take q).map itoa) (fun y hy => by
         obtain ⟨z, hz, rfl⟩ := List.mem_map.1 hy;exact itoa_21 (hx z (List.mem_of_mem_take hz)))
       rw [List.length_map] at this;have h2 := List.length_take_le q l;rw [List.length_append];have h3 : 22 * (l.take q).length ≤ 22 * 1000 := Nat.mul_le_mul_left _ (by omega)
       omega
     rw [hge] at hc;have HD := Lib.hid (rdec_any (l[q]'hlt) hxq wr);have hil := itoa_21 hxq;generalize wd ++ spaced ((l.take q).map itoa) = J at *;generalize l[q]'hlt = z at *;generalize itoa z = iz at *
     have hs1 : ¬ 9223372036854775807 < 1 + iz.length := by omega
     have hs2 : ¬ 9223372036854775807 < J.length + (1 + iz.length) := by omega
     have hs3 : ¬ 9223372036854775807 < J.length + (iz.length + 1) := by omega
     clear hge hx
     go_wp2_with fail
     refine HD.out.mono ?_;rintro e w2 ⟨rfl, e0⟩;subst w2;go_wp2
     go_roundw
     case rel => exact ⟨q + 1, by omega, by go_num, by rw [HS.out]; simp [ByteArray.ext_iff], hbw⟩
     case measure => simp [intOf]; omega
   · obtain rfl : q = l.length := by omega
     have hlen : (wd ++ spaced ((l.take l.length).map itoa)).length ≤ 100 + 22 * 1000 := by
       rw [List.take_length]
       have := spaced_len (l.map itoa) (fun y hy => by
         obtain ⟨z, hz, rfl⟩ := List.mem_map.1 hy;exact itoa_21 (hx z hz))
       rw [List.length_map] at this;rw [List.length_append];have h3 : 22 * l.length ≤ 22 * 1000 := Nat.mul_le_mul_left _ hl
       omega
     have HO2 : Hid (lineT (wd :: l.map itoa) = (wd ++ spaced ((l.take l.length).map itoa)) ++ [10]) := Lib.hid (by rw [HO.out, List.take_length]);generalize wd ++ spaced ((l.take l.length).map itoa) = J at *
     have hs1 : ¬ 9223372036854775807 < J.length + 1 := by omega
     clear HO hx;go_wp2
     go_ret
     exact ⟨by rw [HO2.out]; simp [ByteArray.ext_iff], hbw⟩
theorem rres_any (j : Nat) (h1 : 1 ≤ j) (h3 : j ≤ 3) (w : World) : Calls Tryz.prog 36 #[.int .i64 (j : Int)] w fun e w' => e = .returned (.string ⟨(resW j).toArray⟩) ∧ Below w.heap.size w w' := by
 rcases (show j = 1 ∨ j = 2 ∨ j = 3 by omega) with rfl | rfl | rfl
 all_goals
   go_enter Tryz.func36, Tryz.ntmps36;go_wp2
   go_ret
   exact ⟨by rfl, by exact BLW⟩
end Go.Proofs.YtbmcngoeinginaaGreatDoor
namespace Go.Proofs.YtbmcngoeinginaaGreatDoor
open Go Go.RowKit Go.Lib
attribute [local irreducible] Go.wpQuiet
theorem clause_cases {g : GameD} {c : ClauseD} (h : clauseB g c = true) : ∃ oo : Nat, c.out = (oo : Int) ∧ 1 ≤ oo ∧ oo ≤ 3 ∧
   ((c.cond = 1 ∧ ∃ kk : Nat, c.kind = (kk : Int) ∧ kk < g.kinds.length) ∨ (c.cond = 2 ∧ 0 ≤ c.n ∧ c.n < g.b.cells ∧ ∃ kk : Nat, c.kind = (kk : Int) ∧ kk < g.kinds.length) ∨ (c.cond = 3 ∧ 0 ≤ c.n ∧ c.n ≤ 64)) := by
 unfold clauseB rightB at h
 rw [Bool.and_eq_true] at h
 obtain ⟨h1, h2⟩ := h
 have hr := resB_in h1
 refine ⟨c.out.toNat, by omega, by omega, by omega, ?_⟩
 by_cases c1 : c.cond = 1
 · rw [if_pos c1] at h2
   simp only [Bool.and_eq_true, decide_eq_true_eq] at h2;exact .inl ⟨c1, c.kind.toNat, by omega, by omega⟩
 · rw [if_neg c1] at h2
   by_cases c2 : c.cond = 2
   · rw [if_pos c2] at h2
     simp only [Bool.and_eq_true, decide_eq_true_eq] at h2;exact .inr (.inl ⟨c2, by omega, by omega, c.kind.toNat, by omega, by omega⟩)
   · rw [if_neg c2] at h2
     by_cases c3 : c.cond = 3
     · rw [if_pos c3] at h2
       simp only [Bool.and_eq_true, decide_eq_true_eq] at h2;exact .inr (.inr ⟨c3, by omega, by omega⟩)
     · rw [if_neg c3] at h2; cases h2
structure LC (w : World) (gx cx kb ko : Nat) (v3 : Value) (c1 c2 c3 : Int) (nm : List UInt8) (W : World) : Prop where
 b : Below w.heap.size w W
 g3 : W.cell? ⟨gx, 3, none⟩ = some v3
 k1 : W.cell? ⟨cx, 1, none⟩ = some (.int .i64 c1)
 k2 : W.cell? ⟨cx, 2, none⟩ = some (.int .i64 c2)
 k3 : W.cell? ⟨cx, 3, none⟩ = some (.int .i64 c3)
 nm : W.cell? ⟨kb, ko, none⟩ = some (.string ⟨nm.toArray⟩)
theorem LC.up {w W W' : World} {gx cx kb ko : Nat} {v3 : Value} {c1 c2 c3 : Int} {nm : List UInt8} (h : LC w gx cx kb ko v3 c1 c2 c3 nm W) (hb : Below W.heap.size W W') : LC w gx cx kb ko v3 c1 c2 c3 nm W' :=
 ⟨below_step h.b hb, cell_keep hb h.g3, cell_keep hb h.k1, cell_keep hb h.k2, cell_keep hb h.k3, cell_keep hb h.nm⟩
structure LF (w : World) (cx : Nat) (c2 c3 : Int) (W : World) : Prop where
 b : Below w.heap.size w W
 k2 : W.cell? ⟨cx, 2, none⟩ = some (.int .i64 c2)
 k3 : W.cell? ⟨cx, 3, none⟩ = some (.int .i64 c3)
theorem LF.up {w W W' : World} {cx : Nat} {c2 c3 : Int} (h : LF w cx c2 c3 W) (hb : Below W.heap.size W W') : LF w cx c2 c3 W' :=
 ⟨below_step h.b hb, cell_keep hb h.k2, cell_keep hb h.k3⟩
set_option maxRecDepth 100000 in
set_option maxHeartbeats 3000000 in
theorem rline_any (g : GameD) (x : GPl) (c : ClauseD) (N : Nat) (w : World) (hbd : Bounds g) (hc : clauseB g c = true) (hN : N ≤ w.heap.size) (hK : KindsIn N w x.ak g.kinds) :
   Calls Tryz.prog 35 #[.agg (g.cells x), .agg #[.int .i64 c.cond, .int .i64 c.kind, .int .i64 c.n, .int .i64 c.out]] w fun e w' => e = .returned (.string ⟨(clauseT g c).toArray⟩) ∧ Below w.heap.size w w' := by
 have hce := hbd.cells
 have hb := below_alloc (below_alloc (Below.refl _ w) (.cells (g.cells x) 38)) (.cells #[.int .i64 c.cond, .int .i64 c.kind, .int .i64 c.n, .int .i64 c.out] 70)
 have hg1 : ((w.alloc (.cells (g.cells x) 38)).alloc (.cells #[.int .i64 c.cond, .int .i64 c.kind, .int .i64 c.n, .int .i64 c.out] 70)).cell? ⟨w.heap.size, 3, none⟩ = some (.slice x.ak g.kinds.length x.ck) := cell_alloc_keep (cell_new_at _ _ _ _ _ _ rfl rfl) _
 have hc1 : ((w.alloc (.cells (g.cells x) 38)).alloc (.cells #[.int .i64 c.cond, .int .i64 c.kind, .int .i64 c.n, .int .i64 c.out] 70)).heap[w.heap.size + 1]? = some (.cells #[.int .i64 c.cond, .int .i64 c.kind, .int .i64 c.n, .int .i64 c.out] 70 (0, 0)) := by
   have := World.alloc_heap_new (w.alloc (.cells (g.cells x) 38)) (.cells #[.int .i64 c.cond, .int .i64 c.kind, .int .i64 c.n, .int .i64 c.out] 70)
   rwa [World.size_alloc] at this
 obtain ⟨oo, hoo, ho1, ho3, hcs⟩ := clause_cases hc
 have HO0 : Hid (clauseT g c = lineT (clauseL c.cond c.n (kindNm g c.kind) oo)) := Lib.hid (by unfold clauseT; rw [hoo, Int.toNat_natCast])
 have HRS := Lib.hid (fun W => rres_any oo ho1 ho3 W)
 have hrl := resW_le oo
 have HNM := Lib.hid (fun kk (h : kk < g.kinds.length) => (hK.up hN hb).at_ h)
 have HN8 := Lib.hid (fun kk (h : kk < g.kinds.length) => (hbd.kind _ (List.getElem_mem h)).1)
 unfold GameD.cells at *
 clear hbd hc hK hN
 rw [hoo] at hb hg1 hc1 HNM ⊢
 generalize c.n = n at *
 generalize c.cond = cond at *
 obtain ⟨gx, hgx⟩ : ∃ gx, w.heap.size = gx := ⟨_, rfl⟩
 go_enter Tryz.func35, Tryz.ntmps35
 go_upto_region 1 with (fail)
 rcases hcs with ⟨rfl, kk, hkk, hkl⟩ | ⟨rfl, hn0, hn1, kk, hkk, hkl⟩ | ⟨rfl, hn0, hn1⟩
 · obtain ⟨kb, off, aj, cj, hxa, hbn, z0, _⟩ := HNM.out kk hkl
   have h8 := HN8.out kk hkl
   have hke : kindNm g (kk : Int) = (g.kinds[kk]'hkl).name := by unfold kindNm; rw [Int.toNat_natCast, List.getElem?_eq_getElem hkl, Option.getD_some]
   rw [hkk, hke] at HO0;rw [hkk] at hb hg1 hc1 z0 ⊢;generalize (g.kinds[kk]'hkl).name = nm at *;have HXA := Lib.hid hxa;clear hxa hke;generalize (w.alloc (.cells #[.int .i64 g.b.cells, .slice x.an g.b.next.length x.cn, .slice x.at_ g.b.turn.length x.ct, .slice x.ak g.kinds.length x.ck, .int .i64 g.rights, .bool g.must, .slice x.ac g.clauses.length x.cc, .int .i64 g.blocked, .int .i64 g.endless] 38)).alloc (.cells #[.int .i64 1, .int .i64 (kk : Int), .int .i64 n, .int .i64 (oo : Int)] 70) = w1 at *;rw [hgx] at hg1 hc1;(try simp only [hgx]);clear hgx;rw [HXA.out] at hg1;have k0 := bx_cell hc1 0 rfl;have hC : LC w1 gx (gx + 1) kb (off + kk * 3) (.slice (some ⟨kb, off, none⟩) g.kinds.length x.ck) (kk : Int) n (oo : Int) nm w1 := ⟨Below.refl _ _, hg1, bx_cell hc1 1 rfl, bx_cell hc1 2 rfl, bx_cell hc1 3 rfl, z0⟩;have hC2 := hC.up (Below.refl _ _).drew;have HB := Lib.hid hb
   have b3 : (0 : Int) ≤ (kk : Int) := by omega
   have b4 : (kk : Int) < (g.kinds.length : Int) := by omega
   clear hC hg1 hc1 z0 hb;go_upto_region 3 with (fail);clear k0;refine wp_region_quiet (C := LC w1 gx (gx + 1) kb (off + kk * 3) (.slice (some ⟨kb, off, none⟩) g.kinds.length x.ck) (kk : Int) n (oo : Int) nm) (by kernel_rfl) (by kernel_rfl) hC2 ?_;clear hC2;dsimp only
   have HO : Hid (clauseT g c = wLacks ++ [32] ++ nm ++ [32] ++ resW oo ++ [10]) := Lib.hid (by rw [HO0.out]; unfold clauseL lineT; rw [if_pos rfl, join_spaced]; simp [spaced])
   unfold wLacks at HO
   have s1 : ¬ 9223372036854775807 < 6 + nm.length := by omega
   have s2 : ¬ 9223372036854775807 < 6 + nm.length + 1 := by omega
   have s3 : ¬ 9223372036854775807 < 6 + nm.length + 1 + (resW oo).length := by omega
   have s4 : ¬ 9223372036854775807 < 6 + nm.length + 1 + (resW oo).length + 1 := by omega
   iterate 11
     refine wpQuiet_val (v := ?_) (by rfl) ?_ ?_;rotate_left
     · ((intro W hW; (try cases hW); go_simp); try with_reducible rfl)
     (try simp only [pS])
   refine wpQuiet_val (v := .string ⟨(resW oo).toArray⟩) (by rfl) (fun W hW => ?_) ?_
   · go_simp
     exact (HRS.out W).mono fun e w' ⟨he, hb⟩ => ⟨he, hW.up hb⟩
   (try simp only [pS]);generalize resW oo = rw_ at *
   iterate 3
     refine wpQuiet_val (v := ?_) (by rfl) ?_ ?_;rotate_left
     · ((intro W hW; (try cases hW); go_simp); try with_reducible rfl)
     (try simp only [pS])
   refine wpQuiet_nil (fun w2 hW => ?_);have HB2 := Lib.hid hW.b;clear hW;go_wp2
   go_ret
   exact ⟨by rw [HO.out]; simp [ByteArray.ext_iff], below_step HB.out HB2.out⟩
 · obtain ⟨kb, off, aj, cj, hxa, hbn, z0, _⟩ := HNM.out kk hkl
   have h8 := HN8.out kk hkl
   have hke : kindNm g (kk : Int) = (g.kinds[kk]'hkl).name := by unfold kindNm; rw [Int.toNat_natCast, List.getElem?_eq_getElem hkl, Option.getD_some]
   rw [hkk, hke] at HO0;rw [hkk] at hb hg1 hc1 z0 ⊢;generalize (g.kinds[kk]'hkl).name = nm at *;have HXA := Lib.hid hxa;clear hxa hke;generalize (w.alloc (.cells #[.int .i64 g.b.cells, .slice x.an g.b.next.length x.cn, .slice x.at_ g.b.turn.length x.ct, .slice x.ak g.kinds.length x.ck, .int .i64 g.rights, .bool g.must, .slice x.ac g.clauses.length x.cc, .int .i64 g.blocked, .int .i64 g.endless] 38)).alloc (.cells #[.int .i64 2, .int .i64 (kk : Int), .int .i64 n, .int .i64 (oo : Int)] 70) = w1 at *;rw [hgx] at hg1 hc1;(try simp only [hgx]);clear hgx;rw [HXA.out] at hg1;have k0 := bx_cell hc1 0 rfl;have hC : LC w1 gx (gx + 1) kb (off + kk * 3) (.slice (some ⟨kb, off, none⟩) g.kinds.length x.ck) (kk : Int) n (oo : Int) nm w1 := ⟨Below.refl _ _, hg1, bx_cell hc1 1 rfl, bx_cell hc1 2 rfl, bx_cell hc1 3 rfl, z0⟩;have hC2 := hC.up (Below.refl _ _).drew;have HB := Lib.hid hb
   have b3 : (0 : Int) ≤ (kk : Int) := by omega
   have b4 : (kk : Int) < (g.kinds.length : Int) := by omega
   clear hC hg1 hc1 z0 hb;go_upto_region 5 with (fail);clear k0;refine wp_region_quiet (C := LC w1 gx (gx + 1) kb (off + kk * 3) (.slice (some ⟨kb, off, none⟩) g.kinds.length x.ck) (kk : Int) n (oo : Int) nm) (by kernel_rfl) (by kernel_rfl) hC2 ?_;clear hC2;dsimp only
   have HO : Hid (clauseT g c = wHolds ++ [32] ++ nm ++ [32] ++ itoa n ++ [32] ++ resW oo ++ [10]) := Lib.hid (by rw [HO0.out]; unfold clauseL lineT; rw [if_neg (by decide), if_pos rfl, join_spaced]; simp [spaced])
   unfold wHolds at HO;have HDC := Lib.hid (fun W => rdec_any n (by omega) W);have hil := itoa_21 (n := n) (by omega)
   have s1 : ¬ 9223372036854775807 < 6 + nm.length := by omega
   have s2 : ¬ 9223372036854775807 < 6 + nm.length + 1 := by omega
   have s3 : ¬ 9223372036854775807 < 6 + nm.length + 1 + (itoa n).length := by omega
   have s4 : ¬ 9223372036854775807 < 6 + nm.length + 1 + (itoa n).length + 1 := by omega
   have s5 : ¬ 9223372036854775807 < 6 + nm.length + 1 + (itoa n).length + 1 + (resW oo).length := by omega
   have s6 : ¬ 9223372036854775807 < 6 + nm.length + 1 + (itoa n).length + 1 + (resW oo).length + 1 := by omega
   iterate 11
     refine wpQuiet_val (v := ?_) (by rfl) ?_ ?_;rotate_left
     · ((intro W hW; (try cases hW); go_simp); try with_reducible rfl)
     (try simp only [pS])
   refine wpQuiet_val (v := .string ⟨(itoa n).toArray⟩) (by rfl) (fun W hW => ?_) ?_
   · go_simp
     exact (HDC.out W).mono fun e w' ⟨he, hb⟩ => ⟨he, hb ▸ hW⟩
   (try simp only [pS])
   iterate 4
     refine wpQuiet_val (v := ?_) (by rfl) ?_ ?_;rotate_left
     · ((intro W hW; (try cases hW); go_simp); try with_reducible rfl)
     (try simp only [pS])
   refine wpQuiet_val (v := .string ⟨(resW oo).toArray⟩) (by rfl) (fun W hW => ?_) ?_
   · go_simp
     exact (HRS.out W).mono fun e w' ⟨he, hb⟩ => ⟨he, hW.up hb⟩
   (try simp only [pS])
   iterate 3
     refine wpQuiet_val (v := ?_) (by rfl) ?_ ?_;rotate_left
     · ((intro W hW; (try cases hW); go_simp); try with_reducible rfl)
     (try simp only [pS])
   refine wpQuiet_nil (fun w2 hW => ?_);have HB2 := Lib.hid hW.b;clear hW;go_wp2
   go_ret
   exact ⟨by rw [HO.out]; simp [ByteArray.ext_iff], below_step HB.out HB2.out⟩
 · have hfl : ∀ nm, clauseL 3 n nm oo = [wFew, itoa n, resW oo] := fun nm => by unfold clauseL; rw [if_neg (by decide), if_neg (by decide)]
   have HO : Hid (clauseT g c = wFew ++ [32] ++ itoa n ++ [32] ++ resW oo ++ [10]) := Lib.hid (by rw [HO0.out, hfl]; unfold lineT; rw [join_spaced]; simp [spaced])
   unfold wFew at HO;have HDC := Lib.hid (fun W => rdec_any n (by omega) W);have hil := itoa_21 (n := n) (by omega);clear hfl HO0 HNM HN8;generalize (w.alloc (.cells #[.int .i64 g.b.cells, .slice x.an g.b.next.length x.cn, .slice x.at_ g.b.turn.length x.ct, .slice x.ak g.kinds.length x.ck, .int .i64 g.rights, .bool g.must, .slice x.ac g.clauses.length x.cc, .int .i64 g.blocked, .int .i64 g.endless] 38)).alloc (.cells #[.int .i64 3, .int .i64 c.kind, .int .i64 n, .int .i64 (oo : Int)] 70) = w1 at *;rw [hgx] at hg1 hc1;(try simp only [hgx]);clear hgx;have k0 := bx_cell hc1 0 rfl;have hC : LF w1 (gx + 1) n (oo : Int) w1 := ⟨Below.refl _ _, bx_cell hc1 2 rfl, bx_cell hc1 3 rfl⟩;have hC2 := hC.up (Below.refl _ _).drew;have HB := Lib.hid hb;clear hC hg1 hc1 hb;go_upto_region 6 with (fail);clear k0
   refine wp_region_quiet (C := LF w1 (gx + 1) n (oo : Int)) (by kernel_rfl) (by kernel_rfl) hC2 ?_;clear hC2;dsimp only
   have s1 : ¬ 9223372036854775807 < 4 + (itoa n).length := by omega
   have s2 : ¬ 9223372036854775807 < 4 + (itoa n).length + 1 := by omega
   have s3 : ¬ 9223372036854775807 < 4 + (itoa n).length + 1 + (resW oo).length := by omega
   have s4 : ¬ 9223372036854775807 < 4 + (itoa n).length + 1 + (resW oo).length + 1 := by omega
   iterate 2
     refine wpQuiet_val (v := ?_) (by rfl) ?_ ?_;rotate_left
     · ((intro W hW; (try cases hW); go_simp); try with_reducible rfl)
     (try simp only [pS])
   refine wpQuiet_val (v := .string ⟨(itoa n).toArray⟩) (by rfl) (fun W hW => ?_) ?_
   · go_simp
     exact (HDC.out W).mono fun e w' ⟨he, hb⟩ => ⟨he, hb ▸ hW⟩
   (try simp only [pS])
   iterate 4
     refine wpQuiet_val (v := ?_) (by rfl) ?_ ?_;rotate_left
     · ((intro W hW; (try cases hW); go_simp); try with_reducible rfl)
     (try simp only [pS])
   refine wpQuiet_val (v := .string ⟨(resW oo).toArray⟩) (by rfl) (fun W hW => ?_) ?_
   · go_simp
     exact (HRS.out W).mono fun e w' ⟨he, hb⟩ => ⟨he, hW.up hb⟩
   (try simp only [pS])
   iterate 3
     refine wpQuiet_val (v := ?_) (by rfl) ?_ ?_;rotate_left
     · ((intro W hW; (try cases hW); go_simp); try with_reducible rfl)
     (try simp only [pS])
   refine wpQuiet_nil (fun w2 hW => ?_);have HB2 := Lib.hid hW.b;clear hW;go_wp2
   go_ret
   exact ⟨by rw [HO.out]; simp [ByteArray.ext_iff], below_step HB.out HB2.out⟩
end Go.Proofs.YtbmcngoeinginaaGreatDoor
namespace Go.Proofs.YtbmcngoeinginaaGreatDoor
open Go Go.RowKit
theorem in_any (n m : Int) (w : World) : Calls Tryz.prog 120 #[.int .i64 n, .int .i64 m] w fun e w' => e = .returned (.bool (decide (0 ≤ n) && decide (n < m))) ∧ w' = w := by
 by_cases h : 0 ≤ n
 · have t : decide (0 ≤ n) = true := by simpa using h
   go_enter Tryz.func120, Tryz.ntmps120;go_wp2
   go_ret
   exact ⟨by simp [h], rfl⟩
 · have t : decide (0 ≤ n) = false := by simpa using h
   rw [t];go_enter Tryz.func120, Tryz.ntmps120;go_wp2
   go_ret
   exact ⟨by simp, rfl⟩
set_option maxRecDepth 100000 in
set_option maxHeartbeats 2000000 in
theorem qstep_any (op n d k r : Int) (w : World) : Calls Tryz.prog 88 #[.agg #[.int .i64 op, .int .i64 n], .int .i64 d, .int .i64 k, .int .i64 r] w fun e w' => e = .returned (.bool (okStep d k r (op, n))) ∧ Below w.heap.size w w' := by
 cases h : opB op with
 | false =>
   have HO := Lib.hid (by simp [okStep, h] : okStep d k r (op, n) = false)
   have hn : ∀ j : Int, 0 < j → j < 11 → (op == j) = false ∧ decide (op = j) = false := by
     intro j h0 h1
     have : ¬ op = j := fun e => by
       have : opB op = true := by unfold opB; simp; omega
       rw [this] at h; cases h
     simpa using this
   obtain ⟨a1, b1⟩ := hn 1 (by omega) (by omega);obtain ⟨a2, b2⟩ := hn 2 (by omega) (by omega);obtain ⟨a3, b3⟩ := hn 3 (by omega) (by omega);obtain ⟨a4, b4⟩ := hn 4 (by omega) (by omega);obtain ⟨a5, b5⟩ := hn 5 (by omega) (by omega);obtain ⟨a6, b6⟩ := hn 6 (by omega) (by omega);obtain ⟨a7, b7⟩ := hn 7 (by omega) (by omega);obtain ⟨a8, b8⟩ := hn 8 (by omega) (by omega);obtain ⟨a9, b9⟩ := hn 9 (by omega) (by omega);obtain ⟨a10, b10⟩ := hn 10 (by omega) (by omega);clear hn h;go_enter Tryz.func88, Tryz.ntmps88;go_wp2
   go_ret
   exact ⟨by rw [HO.out]; rfl, by exact BLW⟩
 | true =>
   obtain ⟨j, rfl, h0, h11⟩ := opB_nat h;clear h
   have : j = 1 ∨ j = 2 ∨ j = 3 ∨ j = 4 ∨ j = 5 ∨ j = 6 ∨ j = 7 ∨ j = 8 ∨ j = 9 ∨ j = 10 := by omega
   clear h0 h11
   rcases this with rfl | rfl | rfl | rfl | rfl | rfl | rfl | rfl | rfl | rfl
   · have HO := Lib.hid (by simp [okStep, opB, limS, nameS, namesL] : okStep d k r (((1 : Nat) : Int), n) = (decide (0 ≤ n) && decide (n < d)))
     go_enter Tryz.func88, Tryz.ntmps88
     go_wp2_with (go_at_call 120; refine (in_any n _ _).mono ?_; rintro e w' ⟨rfl, rfl⟩)
     go_ret
     exact ⟨by rw [HO.out]; first | rfl | (simp; done) | (rw [Bool.eq_iff_iff]; simp; omega), by exact BLW⟩
   · have HO := Lib.hid (by simp [okStep, opB, limS, nameS, namesL] : okStep d k r (((2 : Nat) : Int), n) = (decide (0 ≤ n) && decide (n < d)))
     go_enter Tryz.func88, Tryz.ntmps88
     go_wp2_with (go_at_call 120; refine (in_any n _ _).mono ?_; rintro e w' ⟨rfl, rfl⟩)
     go_ret
     exact ⟨by rw [HO.out]; first | rfl | (simp; done) | (rw [Bool.eq_iff_iff]; simp; omega), by exact BLW⟩
   · have HO := Lib.hid (by simp [okStep, opB, limS, nameS, namesL]; rw [Bool.eq_iff_iff]; simp; omega : okStep d k r (((3 : Nat) : Int), n) = decide (n = 0))
     go_enter Tryz.func88, Tryz.ntmps88
     go_wp2_with (go_at_call 120; refine (in_any n _ _).mono ?_; rintro e w' ⟨rfl, rfl⟩)
     go_ret
     exact ⟨by rw [HO.out]; first | rfl | (simp; done) | (rw [Bool.eq_iff_iff]; simp; omega), by exact BLW⟩
   · have HO := Lib.hid (by simp [okStep, opB, limS, nameS, namesL]; rw [Bool.eq_iff_iff]; simp; omega : okStep d k r (((4 : Nat) : Int), n) = decide (n = 0))
     go_enter Tryz.func88, Tryz.ntmps88
     go_wp2_with (go_at_call 120; refine (in_any n _ _).mono ?_; rintro e w' ⟨rfl, rfl⟩)
     go_ret
     exact ⟨by rw [HO.out]; first | rfl | (simp; done) | (rw [Bool.eq_iff_iff]; simp; omega), by exact BLW⟩
   · have HO := Lib.hid (by simp [okStep, opB, limS, nameS, namesL]; rw [Bool.eq_iff_iff]; simp; omega : okStep d k r (((5 : Nat) : Int), n) = decide (n = 0))
     go_enter Tryz.func88, Tryz.ntmps88
     go_wp2_with (go_at_call 120; refine (in_any n _ _).mono ?_; rintro e w' ⟨rfl, rfl⟩)
     go_ret
     exact ⟨by rw [HO.out]; first | rfl | (simp; done) | (rw [Bool.eq_iff_iff]; simp; omega), by exact BLW⟩
   · have HO := Lib.hid (by simp [okStep, opB, limS, nameS, namesL]; rw [Bool.eq_iff_iff]; simp; omega : okStep d k r (((6 : Nat) : Int), n) = decide (n = 0))
     go_enter Tryz.func88, Tryz.ntmps88
     go_wp2_with (go_at_call 120; refine (in_any n _ _).mono ?_; rintro e w' ⟨rfl, rfl⟩)
     go_ret
     exact ⟨by rw [HO.out]; first | rfl | (simp; done) | (rw [Bool.eq_iff_iff]; simp; omega), by exact BLW⟩
   · have HO := Lib.hid (by simp [okStep, opB, limS, nameS, namesL] : okStep d k r (((7 : Nat) : Int), n) = (decide (0 ≤ n) && decide (n < d)))
     go_enter Tryz.func88, Tryz.ntmps88
     go_wp2_with (go_at_call 120; refine (in_any n _ _).mono ?_; rintro e w' ⟨rfl, rfl⟩)
     go_ret
     exact ⟨by rw [HO.out]; first | rfl | (simp; done) | (rw [Bool.eq_iff_iff]; simp; omega), by exact BLW⟩
   · have HO := Lib.hid (by simp [okStep, opB, limS, nameS, namesL] : okStep d k r (((8 : Nat) : Int), n) = (decide (0 ≤ n) && decide (n < k)))
     go_enter Tryz.func88, Tryz.ntmps88
     go_wp2_with (go_at_call 120; refine (in_any n _ _).mono ?_; rintro e w' ⟨rfl, rfl⟩)
     go_ret
     exact ⟨by rw [HO.out]; first | rfl | (simp; done) | (rw [Bool.eq_iff_iff]; simp; omega), by exact BLW⟩
   · have HO := Lib.hid (by simp [okStep, opB, limS, nameS, namesL] : okStep d k r (((9 : Nat) : Int), n) = (decide (0 ≤ n) && decide (n < r)))
     go_enter Tryz.func88, Tryz.ntmps88
     go_wp2_with (go_at_call 120; refine (in_any n _ _).mono ?_; rintro e w' ⟨rfl, rfl⟩)
     go_ret
     exact ⟨by rw [HO.out]; first | rfl | (simp; done) | (rw [Bool.eq_iff_iff]; simp; omega), by exact BLW⟩
   · have HO := Lib.hid (by simp [okStep, opB, limS, nameS, namesL] : okStep d k r (((10 : Nat) : Int), n) = (decide (0 ≤ n) && decide (n < r)))
     go_enter Tryz.func88, Tryz.ntmps88
     go_wp2_with (go_at_call 120; refine (in_any n _ _).mono ?_; rintro e w' ⟨rfl, rfl⟩)
     go_ret
     exact ⟨by rw [HO.out]; first | rfl | (simp; done) | (rw [Bool.eq_iff_iff]; simp; omega), by exact BLW⟩
end Go.Proofs.YtbmcngoeinginaaGreatDoor
namespace Go.Proofs.YtbmcngoeinginaaGreatDoor
open Go Go.RowKit
set_option maxRecDepth 100000 in
set_option maxHeartbeats 1000000 in
theorem count_any (l : List (Int × Int)) (a : Option Addr) (c N : Nat) (op : Int) (w : World) (hl : l.length ≤ 100) (hI : Prg N w a l) :
   Calls Tryz.prog 89 #[.slice a l.length c, .int .i64 op] w fun e w' => e = .returned (.int .i64 (cntS l op)) ∧ w' = w := by
 go_enter Tryz.func89, Tryz.ntmps89
 go_wp2
 go_loop [5, 6] (fun n i => ∃ q : Nat, q ≤ l.length ∧ i = .int .i64 q ∧ n = .int .i64 (cntS (l.take q) op)) (fun _ i => l.length - (intOf i).toNat)
 case atStart => exact ⟨0, Nat.zero_le _, rfl, rfl⟩
 case round =>
   obtain ⟨q, hq, rfl, rfl⟩ := hrel;have hcl := cntS_le (l.take q) op;have hll : (l.take q).length ≤ q := List.length_take_le _ _
   by_cases hlt : q < l.length
   · obtain ⟨b, off, hab, hbN, hop, hnn⟩ := hI.at_ hlt
     subst hab
     have htk : l.take (q + 1) = l.take q ++ [l[q]?.getD (0, 0)] := by rw [List.take_add_one]; simp [hlt]
     have hsn := cntS_snoc (l.take q) (l[q]?.getD (0, 0)) op;rw [← htk] at hsn;generalize l[q]?.getD (0, 0) = x at hop hnn hsn;obtain ⟨o, n⟩ := x;dsimp only at hop hnn hsn
     by_cases h : o = op
     · have t1 : (o == op) = true := by simpa using h
       rw [if_pos h] at hsn;have HS := Lib.hid hsn
       have t2 : decide (o = op) = true := by simpa using h
       clear hsn htk hnn hI h;generalize cntS (l.take q) op = cq at *;go_wp2;go_round
       case rel => exact ⟨q + 1, by omega, by simp, by rw [HS.out]⟩
       case measure => simp [intOf]; omega
     · have t1 : (o == op) = false := by simpa using h
       rw [if_neg h, Int.add_zero] at hsn;have HS := Lib.hid hsn
       have t2 : decide (o = op) = false := by simpa using h
       clear hsn htk hnn hI h;generalize cntS (l.take q) op = cq at *;go_wp2;go_round
       case rel => exact ⟨q + 1, by omega, by simp, by rw [HS.out]⟩
       case measure => simp [intOf]; omega
   · obtain rfl : q = l.length := by omega
     rw [List.take_of_length_le (Nat.le_refl _)];clear hI;go_wp2
     go_ret
     exact ⟨rfl, rfl⟩
set_option maxRecDepth 100000 in
set_option maxHeartbeats 2000000 in
theorem rvalid_any (l : List (Int × Int)) (a : Option Addr) (c : Nat) (d k r : Int) (N : Nat) (w : World) (hl : l.length ≤ 100) (hN : N ≤ w.heap.size) (hI : Prg N w a l) :
   Calls Tryz.prog 61 #[.slice a l.length c, .int .i64 d, .int .i64 k, .int .i64 r] w fun e w' => e = .returned (.bool (validP l d k r)) ∧ Below w.heap.size w w' := by
 go_enter Tryz.func61, Tryz.ntmps61
 go_wp2
 go_loopw [9] (fun i wr => ∃ q : Nat, q ≤ l.length ∧ i = .int .i64 q ∧ (∀ j, j < q → okStep d k r (l[j]?.getD (0, 0)) = true) ∧ Below w.heap.size w wr)
   (fun i _ => l.length - (intOf i).toNat)
 case atStart => exact ⟨0, Nat.zero_le _, rfl, fun j hj => absurd hj (Nat.not_lt_zero _), Below.refl _ _⟩
 case round =>
   obtain ⟨q, hq, rfl, hall, hbw⟩ := hrel
   by_cases hlt : q < l.length
   · obtain ⟨b, off, hab, hbN, hop, hnn⟩ := (hI.up hN hbw).at_ hlt
     subst hab
     have hno : okStep d k r (l[q]?.getD (0, 0)) = false → validP l d k r = false := fun h => by
       have : l.all (okStep d k r) = false := by
         rw [List.all_eq_false];exact ⟨l[q], List.getElem_mem hlt, by simpa [hlt] using h⟩
       simp [validP, this]
     generalize hxe : l[q]?.getD (0, 0) = x at hop hnn hno;obtain ⟨op, n⟩ := x;have HXE := Lib.hid hxe;clear hxe;dsimp only at hop hnn;have HNO := Lib.hid hno;have HA := Lib.hid hall;have HST := Lib.hid (qstep_any op n d k r wr)
     cases hok : okStep d k r (op, n) with
     | false =>
       have HO := Lib.hid (HNO.out hok);have HK := Lib.hid hok;clear hall hno hI hok
       go_wp2_with fail
       refine HST.out.mono ?_;rintro e w4 ⟨rfl, hb4⟩;rw [HK.out];have hbw4 := below_step hbw hb4;go_wp2
       go_ret
       exact ⟨by rw [HO.out]; rfl, hbw4⟩
     | true =>
       have HK := Lib.hid hok;clear hall hno hI hok
       go_wp2_with fail
       refine HST.out.mono ?_;rintro e w4 ⟨rfl, hb4⟩;rw [HK.out];have hbw4 := below_step hbw hb4;go_wp2
       go_roundw
       case rel => exact ⟨q + 1, by omega, by simp, fun j hj => by
         by_cases e : j = q
         · rw [e, HXE.out]; exact HK.out
         · exact HA.out j (by omega), hbw4⟩
       case measure => simp [intOf]; omega
   · obtain rfl : q = l.length := by omega
     have hall' : l.all (okStep d k r) = true := by
       rw [List.all_eq_true];intro x hx;obtain ⟨j, hj, rfl⟩ := List.getElem_of_mem hx;have := hall j hj
       simpa [hj] using this
     have hv : validP l d k r = (decide (1 ≤ l.length) && (decide (l.length ≤ 8) && (decide (cntS l 6 ≤ 2) && (decide (cntS l 7 ≤ 1) && decide (cntS l 8 ≤ 1))))) := by
       unfold validP; rw [hall', Bool.true_and]
     have HV := Lib.hid hv;have hIr := hI.up hN hbw;have HC6 := Lib.hid (count_any l a c N 6 wr hl hIr);have HC7 := Lib.hid (count_any l a c N 7 wr hl hIr);have HC8 := Lib.hid (count_any l a c N 8 wr hl hIr);clear hall hall' hv hI hIr;generalize cntS l 6 = n6 at *;generalize cntS l 7 = n7 at *;generalize cntS l 8 = n8 at *
     by_cases h1 : l.length < 1
     · have t1 : decide (1 ≤ (l.length : Int)) = false := by simp; omega
       have HR := Lib.hid (show validP l d k r = false by rw [HV.out]; simp; omega)
       go_wp2
       go_ret
       exact ⟨by rw [HR.out]; rfl, hbw⟩
     have t1 : decide (1 ≤ (l.length : Int)) = true := by simp; omega
     have s1 : decide (1 ≤ l.length) = true := by simp; omega
     by_cases h2 : 8 < l.length
     · have t2 : decide ((l.length : Int) ≤ 8) = false := by simp; omega
       have HR := Lib.hid (show validP l d k r = false by rw [HV.out]; simp; omega)
       go_wp2
       go_ret
       exact ⟨by rw [HR.out]; rfl, hbw⟩
     have t2 : decide ((l.length : Int) ≤ 8) = true := by simp; omega
     have s2 : decide (l.length ≤ 8) = true := by simp; omega
     rw [s1, s2, Bool.true_and, Bool.true_and] at HV;clear s1 s2 h1 h2
     by_cases h3 : n6 ≤ 2
     · have t3 : decide (n6 ≤ 2) = true := by simpa using h3
       by_cases h4 : n7 ≤ 1
       · have t4 : decide (n7 ≤ 1) = true := by simpa using h4
         have HR := Lib.hid (show validP l d k r = decide (n8 ≤ 1) by rw [HV.out, t3, t4]; rfl)
         go_wp2_with fail
         refine HC6.out.mono ?_;rintro e w4 ⟨rfl, rfl⟩
         go_wp2_with fail
         refine HC7.out.mono ?_;rintro e w5 ⟨rfl, rfl⟩
         go_wp2_with fail
         refine HC8.out.mono ?_;rintro e w6 ⟨rfl, rfl⟩;go_wp2
         go_ret
         exact ⟨by rw [HR.out]; first | rfl | simp, hbw⟩
       · have t4 : decide (n7 ≤ 1) = false := by simpa using h4
         have HR := Lib.hid (show validP l d k r = false by rw [HV.out, t3, t4]; rfl)
         go_wp2_with fail
         refine HC6.out.mono ?_;rintro e w4 ⟨rfl, rfl⟩
         go_wp2_with fail
         refine HC7.out.mono ?_;rintro e w5 ⟨rfl, rfl⟩;go_wp2
         go_ret
         exact ⟨by rw [HR.out]; rfl, hbw⟩
     · have t3 : decide (n6 ≤ 2) = false := by simpa using h3
       have HR := Lib.hid (show validP l d k r = false by rw [HV.out, t3]; rfl)
       go_wp2_with fail
       refine HC6.out.mono ?_;rintro e w4 ⟨rfl, rfl⟩;go_wp2
       go_ret
       exact ⟨by rw [HR.out]; rfl, hbw⟩
end Go.Proofs.YtbmcngoeinginaaGreatDoor
namespace Go.Proofs.YtbmcngoeinginaaGreatDoor
open Go Go.RowKit
attribute [local irreducible] Go.wpQuiet
structure KC (w : World) (gb kb pb po j : Nat) (v1 v3 v4 vk vp : Value) (W : World) : Prop where
 b : Below w.heap.size w W
 g1 : W.cell? ⟨gb, 1, none⟩ = some v1
 g3 : W.cell? ⟨gb, 3, none⟩ = some v3
 g4 : W.cell? ⟨gb, 4, none⟩ = some v4
 k1 : W.cell? ⟨kb, 1, none⟩ = some vk
 pj : W.cell? ⟨pb, po + j, none⟩ = some vp
theorem KC.up {w W W' : World} {gb kb pb po j : Nat} {v1 v3 v4 vk vp : Value} (h : KC w gb kb pb po j v1 v3 v4 vk vp W) (hb : Below W.heap.size W W') : KC w gb kb pb po j v1 v3 v4 vk vp W' :=
 ⟨below_step h.b hb, cell_keep hb h.g1, cell_keep hb h.g3, cell_keep hb h.g4, cell_keep hb h.k1, cell_keep hb h.pj⟩
set_option maxRecDepth 100000 in
set_option maxHeartbeats 3000000 in
theorem rkind_any (g : GameD) (x : GPl) (i N : Nat) (w : World) (hi : i < g.kinds.length) (hl : g.kinds.length ≤ 2000) (hpl : ∀ p ∈ (g.kinds[i]'hi).progs, p.length ≤ 100) (hpn : (g.kinds[i]'hi).progs.length ≤ 2000) (hN : N ≤ w.heap.size) (hK : KindsIn N w x.ak g.kinds) :
   Calls Tryz.prog 45 #[.agg (g.cells x), .int .i64 (i : Int)] w fun e w' => e = .returned (.bool (kindAt g i)) ∧ Below w.heap.size w w' := by
 have hb := below_alloc (Below.refl _ w) (.cells (g.cells x) 38)
 have hbox : (w.alloc (.cells (g.cells x) 38)).heap[w.heap.size]? = some (.cells (g.cells x) 38 (0, 0)) := World.alloc_heap_new _ _
 have HKA : Hid (kindAt g i = (nameB (g.kinds[i]'hi).name && (decide (findD g.kinds (g.kinds[i]'hi).name = (i : Int)) && (decide ((g.kinds[i]'hi).progs.length ≤ 8) && !(g.kinds[i]'hi).progs.any (wrongP g))))) := Lib.hid (by
   unfold kindAt kindB progsB;rw [List.getElem?_eq_getElem hi, Option.getD_some])
 have HF := Lib.hid (fun W (h1 : N ≤ W.heap.size) (h2 : KindsIn N W x.ak g.kinds) => rfind_any g x (g.kinds[i]'hi).name N W hl h1 h2)
 have HNM := Lib.hid (fun W => rname_any (g.kinds[i]'hi).name W)
 obtain ⟨b, off, aj, cj, hxa, hbn, z0, z1, hP, z2⟩ := (hK.up hN hb).at_ hi
 have b3 : (0 : Int) ≤ (i : Int) := by omega
 have b4 : (i : Int) < (g.kinds.length : Int) := by omega
 have hcb := World.block_lt_of_cell? _ _ z0
 have HXA := Lib.hid hxa
 clear hxa
 unfold GameD.cells at *
 generalize (g.kinds[i]'hi).name = nm at *
 generalize (g.kinds[i]'hi).progs = ps at *
 generalize (g.kinds[i]'hi).keep = kp at *
 go_enter Tryz.func45, Tryz.ntmps45
 go_upto_region 1 with (fail)
 have q3 : (w.alloc (.cells #[.int .i64 g.b.cells, .slice x.an g.b.next.length x.cn, .slice x.at_ g.b.turn.length x.ct, .slice x.ak g.kinds.length x.ck, .int .i64 g.rights, .bool g.must, .slice x.ac g.clauses.length x.cc, .int .i64 g.blocked, .int .i64 g.endless] 38)).cell? ⟨w.heap.size, 3, none⟩ = some (.slice x.ak g.kinds.length x.ck) := bx_cell hbox 3 rfl
 generalize w.alloc (.cells #[.int .i64 g.b.cells, .slice x.an g.b.next.length x.cn, .slice x.at_ g.b.turn.length x.ct, .slice x.ak g.kinds.length x.ck, .int .i64 g.rights, .bool g.must, .slice x.ac g.clauses.length x.cc, .int .i64 g.blocked, .int .i64 g.endless] 38) = w1 at *
 rw [HXA.out] at q3
 go_upto_region 2 with (fail)
 have hbk : Below w1.heap.size w1 (w1.alloc (.cells #[.string ⟨nm.toArray⟩, .slice aj ps.length cj, .bool kp] 63)) := below_alloc (Below.refl _ _) _
 have hkx : (w1.alloc (.cells #[.string ⟨nm.toArray⟩, .slice aj ps.length cj, .bool kp] 63)).heap[w1.heap.size]? = some (.cells #[.string ⟨nm.toArray⟩, .slice aj ps.length cj, .bool kp] 63 (0, 0)) := World.alloc_heap_new _ _
 obtain ⟨kb, hkb⟩ : ∃ kb, w1.heap.size = kb := ⟨_, rfl⟩
 have HKB := Lib.hid hkb
 rw [hkb] at hkx
 (try simp only [hkb])
 clear hkb
 have HXB := Lib.hid hbox
 have HB1 := Lib.hid hb
 have HBK := Lib.hid hbk
 have hx2 := (hbk.block _ (bx_lt hbox)).trans hbox
 have HP2 := Lib.hid (hP.up (Nat.le_trans hN hb.size) hbk)
 have HK2 := Lib.hid ((hK.up hN hb).up (Nat.le_trans hN hb.size) hbk)
 have HN2 : Hid (N ≤ w1.heap.size) := Lib.hid (Nat.le_trans hN hb.size)
 generalize w1.alloc (.cells #[.string ⟨nm.toArray⟩, .slice aj ps.length cj, .bool kp] 63) = w2 at *
 clear z0 z1 z2 hP q3 hcb hK hb hbox hbk
 have k0 := bx_cell hkx 0 rfl
 have HKX := Lib.hid hkx
 have HX2 := Lib.hid hx2
 clear hkx hx2
 go_wp2_with fail
 refine (HNM.out w2).mono ?_
 rintro e w3 ⟨rfl, hb3⟩
 have HX3 := Lib.hid ((hb3.block _ (bx_lt HX2.out)).trans HX2.out)
 have HKX3 := Lib.hid ((hb3.block _ (bx_lt HKX.out)).trans HKX.out)
 have HN2' : Hid (N ≤ w2.heap.size) := Lib.hid (Nat.le_trans HN2.out HBK.out.size)
 have HP3 := Lib.hid (HP2.out.up HN2'.out hb3)
 have HK3 := Lib.hid (HK2.out.up HN2'.out hb3)
 have HN3 : Hid (N ≤ w3.heap.size) := Lib.hid (Nat.le_trans HN2'.out hb3.size)
 have HB3 := Lib.hid (below_step HB1.out (below_step HBK.out hb3))
 clear hb3 k0 HNM HKX HX2 HN2' HP2 HK2 HN2 HB1 HBK HXB
 cases hnb : nameB nm with
 | false =>
   have HO : Hid (kindAt g i = false) := Lib.hid (by rw [HKA.out, hnb]; rfl)
   clear hnb;go_wp2
   go_ret
   exact ⟨by rw [HO.out]; rfl, HB3.out⟩
 | true =>
   have HNB := Lib.hid hnb;clear hnb;have k0 := bx_cell HKX3.out 0 rfl;have hx3 := HX3.out;have q0 := bx_cell hx3 0 rfl;have q1 := bx_cell hx3 1 rfl;have q2 := bx_cell hx3 2 rfl;have q3 := bx_cell hx3 3 rfl;have q4 := bx_cell hx3 4 rfl;have q5 := bx_cell hx3 5 rfl;have q6 := bx_cell hx3 6 rfl;have q7 := bx_cell hx3 7 rfl;have q8 := bx_cell hx3 8 rfl;clear hx3;have HF3 := Lib.hid (HF.out w3 HN3.out HK3.out)
   go_wp2_with fail
   refine HF3.out.mono ?_;rintro e w4 ⟨rfl, hb4⟩;have HX4 := Lib.hid ((hb4.block _ (bx_lt HX3.out)).trans HX3.out);have HKX4 := Lib.hid ((hb4.block _ (bx_lt HKX3.out)).trans HKX3.out);have HP4 := Lib.hid (HP3.out.up HN3.out hb4);have HN4 : Hid (N ≤ w4.heap.size) := Lib.hid (Nat.le_trans HN3.out hb4.size);have HB4 := Lib.hid (below_step HB3.out hb4);clear hb4 k0 q0 q1 q2 q3 q4 q5 q6 q7 q8 HF3 HF HK3 HX3 HKX3 HP3 HN3 HB3
   by_cases hf : findD g.kinds nm = (i : Int)
   · have HFD := Lib.hid hf
     rw [hf];clear hf;have k1 := bx_cell HKX4.out 1 rfl
     by_cases h8 : 8 < ps.length
     · have t8 : decide ((8 : Int) < (ps.length : Int)) = true := by rw [decide_eq_true_eq]; omega
       have t8' : decide (8 < ps.length) = true := by simpa using h8
       have HO : Hid (kindAt g i = false) := Lib.hid (by rw [HKA.out, show decide (ps.length ≤ 8) = false from by rw [decide_eq_false_iff_not]; omega]; simp)
       go_wp2
       go_ret
       exact ⟨by rw [HO.out]; rfl, HB4.out⟩
     have t8 : decide ((8 : Int) < (ps.length : Int)) = false := by rw [decide_eq_false_iff_not]; omega
     have t8' : decide (8 < ps.length) = false := by simpa using h8
     have HKA2 : Hid (kindAt g i = !ps.any (wrongP g)) := Lib.hid (by rw [HKA.out, HNB.out, HFD.out, show decide (ps.length ≤ 8) = true from by rw [decide_eq_true_eq]; omega]; simp)
     go_wp2;clear k1 t8 t8' HKA HNB HFD
     go_loopw [6] (fun v wr => ∃ q : Nat, q ≤ ps.length ∧ v = .int .i64 (q : Int) ∧ Hid (∀ j (hj : j < q) (hj2 : j < ps.length), wrongP g (ps[j]'hj2) = false) ∧ Hid (Below w4.heap.size w4 wr)) (fun v _ => ps.length - (intOf v).toNat)
     case atStart => exact ⟨0, Nat.zero_le _, rfl, Lib.hid (fun j hj => absurd hj (Nat.not_lt_zero _)), Lib.hid (Below.refl _ _)⟩
     case round =>
       obtain ⟨q, hq, rfl, hall, HBR⟩ := hrel;have hxr := (HBR.out.block _ (bx_lt HX4.out)).trans HX4.out;have hkr := (HBR.out.block _ (bx_lt HKX4.out)).trans HKX4.out;have k1 := bx_cell hkr 1 rfl
       by_cases hlt : q < ps.length
       · obtain ⟨pb, po, aq, cq, hja, hpb, p0, hPq⟩ := (HP4.out.up HN4.out HBR.out).at_ hlt
         have t3 : decide ((q : Int) < (ps.length : Int)) = true := by rw [decide_eq_true_eq]; omega
         have d3 : (0 : Int) ≤ (q : Int) := by omega
         have d4 : (q : Int) < (ps.length : Int) := by omega
         have hlp := hpl _ (List.getElem_mem hlt);have HWP : Hid (∀ h : q < ps.length, wrongP g (ps[q]'h) = !validP (ps[q]'hlt) (g.b.next.length : Int) (g.kinds.length : Int) g.rights) := Lib.hid (fun _ => rfl);have HR2 := Lib.hid (fun W (h : Below wr.heap.size wr W) => rvalid_any (ps[q]'hlt) aq cq (g.b.next.length : Int) (g.kinds.length : Int) g.rights N W hlp (Nat.le_trans (Nat.le_trans HN4.out HBR.out.size) h.size) (hPq.up (Nat.le_trans HN4.out HBR.out.size) h));generalize (ps[q]'hlt) = pq at *;rw [hja] at k1;have g1 := bx_cell hxr 1 rfl;have g3 := bx_cell hxr 3 rfl;have g4 := bx_cell hxr 4 rfl;have hC : KC wr w.heap.size kb pb po q _ _ _ _ _ wr := ⟨Below.refl _ _, g1, g3, g4, k1, p0⟩;have hC2 := hC.up (Below.refl _ _).drew;have HBQ : Hid (Below w.heap.size w wr) := Lib.hid (below_step HB4.out HBR.out);clear g1 g3 g4 p0 hPq hC hkr hxr;go_upto_region 7 with (fail);clear k1
         generalize validP pq (g.b.next.length : Int) (g.kinds.length : Int) g.rights = vb at *;refine wp_region_quiet (C := KC wr w.heap.size kb pb po q _ _ _ _ _) (by kernel_rfl) (by kernel_rfl) hC2 ?_;clear hC2;dsimp only
         iterate 14
           refine wpQuiet_val (v := ?_) (by rfl) ?_ ?_;rotate_left
           · ((intro W hW; (try cases hW); go_simp); try with_reducible rfl)
           (try simp only [pS])
         refine wpQuiet_val (v := .bool vb) (by rfl) (fun W hW => ?_) ?_
         · go_simp
           exact (HR2.out W hW.b).mono fun e w' ⟨he, hb⟩ => ⟨he, hW.up hb⟩
         (try simp only [pS]);refine wpQuiet_val (v := ?_) (by rfl) ?_ ?_;rotate_left
         · ((intro W hW; (try cases hW); go_simp); try with_reducible rfl)
         (try simp only [pS]);refine wpQuiet_nil (fun w6 hW => ?_);have HB6 := Lib.hid hW.b;clear hW
         cases vb with
         | false =>
           have HO : Hid (kindAt g i = false) := Lib.hid (by rw [HKA2.out, List.any_eq_true.2 ⟨_, List.getElem_mem hlt, by rw [HWP.out hlt]; rfl⟩]; rfl)
           go_wp2
           go_ret
           exact ⟨by rw [HO.out]; rfl, below_step HBQ.out HB6.out⟩
         | true =>
           go_wp2
           go_roundw
           case rel =>
             refine ⟨q + 1, by omega, by go_num, Lib.hid (fun j hj hj2 => ?_), Lib.hid (below_step HBR.out HB6.out)⟩
             by_cases e : j < q
             · exact hall.out j e hj2
             · obtain rfl : j = q := by omega
               rw [HWP.out hj2]; rfl
           case measure => simp [intOf]; omega
       · obtain rfl : q = ps.length := by omega
         have HO : Hid (kindAt g i = true) := Lib.hid (by
           rw [HKA2.out, List.any_eq_false.2 (fun y hy => by
             obtain ⟨j, hj, rfl⟩ := List.mem_iff_getElem.1 hy
             rw [hall.out j hj hj]; simp)]; rfl)
         have HBQ : Hid (Below w.heap.size w wr) := Lib.hid (below_step HB4.out HBR.out);clear hkr hxr;go_wp2
         go_ret
         exact ⟨by rw [HO.out]; rfl, HBQ.out⟩
   · have t7 : (findD g.kinds nm != (i : Int)) = true := by simpa using hf
     have HO : Hid (kindAt g i = false) := Lib.hid (by rw [HKA.out, show decide (findD g.kinds nm = (i : Int)) = false from by rw [decide_eq_false_iff_not]; exact hf]; simp)
     generalize findD g.kinds nm = fd at *;clear hf;go_wp2
     go_ret
     exact ⟨by rw [HO.out]; rfl, HB4.out⟩
end Go.Proofs.YtbmcngoeinginaaGreatDoor
namespace Go.Proofs.YtbmcngoeinginaaGreatDoor
open Go Go.RowKit
set_option maxRecDepth 100000 in
set_option maxHeartbeats 3000000 in
theorem rclause_any (g : GameD) (x : GPl) (cond k n out : Int) (w : World) (hc : 1 ≤ g.b.cells ∧ g.b.cells ≤ 64) (hk1 : 1 ≤ g.kinds.length) (hk : g.kinds.length ≤ 2000) :
   Calls Tryz.prog 46 #[.agg (g.cells x), .agg #[.int .i64 cond, .int .i64 k, .int .i64 n, .int .i64 out]] w fun e w' => e = .returned (.bool (rightB g.b.cells g.kinds.length cond k n out)) ∧ Below w.heap.size w w' := by
 have y0 : IntKind.i64.wrap ((g.kinds.length : Int) - 1) = (g.kinds.length : Int) - 1 := IntWalk.i64_in _ (by omega)
 have y1 : IntKind.i64.wrap (g.b.cells - 1) = g.b.cells - 1 := IntWalk.i64_in _ (by omega)
 obtain ⟨KB, hKB⟩ : ∃ KB, (decide (0 ≤ k) && decide (k < (g.kinds.length : Int))) = KB := ⟨_, rfl⟩
 obtain ⟨NB, hNB⟩ : ∃ NB, (decide (0 ≤ n) && decide (n < g.b.cells)) = NB := ⟨_, rfl⟩
 obtain ⟨MB, hMB⟩ : ∃ MB, (decide (0 ≤ n) && decide (n ≤ 64)) = MB := ⟨_, rfl⟩
 have HK : Hid ((decide (0 ≤ k) && decide (k ≤ (g.kinds.length : Int) - 1)) = KB) := Lib.hid (by
   rw [← hKB, show (decide (k < (g.kinds.length : Int))) = decide (k ≤ (g.kinds.length : Int) - 1) from by rw [Bool.eq_iff_iff, decide_eq_true_eq, decide_eq_true_eq]; omega])
 have HN : Hid ((decide (0 ≤ n) && decide (n ≤ g.b.cells - 1)) = NB) := Lib.hid (by
   rw [← hNB, show (decide (n < g.b.cells)) = decide (n ≤ g.b.cells - 1) from by rw [Bool.eq_iff_iff, decide_eq_true_eq, decide_eq_true_eq]; omega])
 have HM : Hid ((decide (0 ≤ n) && decide (n ≤ 64)) = MB) := Lib.hid hMB
 obtain ⟨RB, hRB⟩ : ∃ RB, resB out = RB := ⟨_, rfl⟩
 have HR : Hid ((decide (1 ≤ out) && decide (out ≤ 3)) = RB) := Lib.hid (by rw [← hRB]; rfl)
 have HV : Hid (rightB g.b.cells g.kinds.length cond k n out = (RB && (if cond = 1 then KB && decide (n = 0) else if cond = 2 then KB && NB else if cond = 3 then decide (k = 0) && MB else false))) := Lib.hid (by rw [← hKB, ← hNB, ← hMB, ← hRB]; unfold rightB; rfl)
 generalize rightB g.b.cells g.kinds.length cond k n out = RV at *
 clear hKB hNB hMB hRB
 unfold GameD.cells
 have hb0 : Below w.heap.size w ((w.alloc (.cells #[.int .i64 g.b.cells, .slice x.an g.b.next.length x.cn, .slice x.at_ g.b.turn.length x.ct, .slice x.ak g.kinds.length x.ck, .int .i64 g.rights, .bool g.must, .slice x.ac g.clauses.length x.cc, .int .i64 g.blocked, .int .i64 g.endless] 38)).alloc (.cells #[.int .i64 cond, .int .i64 k, .int .i64 n, .int .i64 out] 70)) := below_alloc (below_alloc (Below.refl _ _) _) _
 by_cases c1 : cond = 1
 · subst c1
   cases KB with
   | false =>
     have HO : Hid (RV = false) := Lib.hid (by rw [HV.out]; simp)
     clear HV;go_enter Tryz.func46, Tryz.ntmps46
     go_wp2_with (go_at_call 42; refine (in3_any _ _ _ _).mono ?_; rintro e w3 ⟨rfl, e0⟩; subst w3; first | rw [HK.out] | rw [HN.out] | rw [HM.out] | rw [HR.out])
     go_ret
     exact ⟨by rw [HO.out]; first | rfl | simp, by first | exact hb0 | exact BLW⟩
   | true =>
     by_cases n0 : n = 0
     · subst n0
       cases RB with
       | false =>
         have HO : Hid (RV = false) := Lib.hid (by rw [HV.out]; simp)
         clear HV;go_enter Tryz.func46, Tryz.ntmps46
         go_wp2_with (go_at_call 42; refine (in3_any _ _ _ _).mono ?_; rintro e w3 ⟨rfl, e0⟩; subst w3; first | rw [HK.out] | rw [HN.out] | rw [HM.out] | rw [HR.out])
         go_ret
         exact ⟨by rw [HO.out]; first | rfl | simp, by first | exact hb0 | exact BLW⟩
       | true =>
         have HO : Hid (RV = true) := Lib.hid (by rw [HV.out]; simp)
         clear HV;go_enter Tryz.func46, Tryz.ntmps46
         go_wp2_with (go_at_call 42; refine (in3_any _ _ _ _).mono ?_; rintro e w3 ⟨rfl, e0⟩; subst w3; first | rw [HK.out] | rw [HN.out] | rw [HM.out] | rw [HR.out])
         go_ret
         exact ⟨by rw [HO.out]; first | rfl | simp, by first | exact hb0 | exact BLW⟩
     · have n0d : decide (n = 0) = false := by simpa using n0
       have n0b : (n == 0) = false := by simpa using n0
       have HO : Hid (RV = false) := Lib.hid (by rw [HV.out, n0d]; simp)
       clear HV;go_enter Tryz.func46, Tryz.ntmps46
       go_wp2_with (go_at_call 42; refine (in3_any _ _ _ _).mono ?_; rintro e w3 ⟨rfl, e0⟩; subst w3; first | rw [HK.out] | rw [HN.out] | rw [HM.out] | rw [HR.out])
       go_ret
       exact ⟨by rw [HO.out]; first | rfl | simp, by first | exact hb0 | exact BLW⟩
 have c1b : (cond == 1) = false := by simpa using c1
 by_cases c2 : cond = 2
 · subst c2
   cases KB with
   | false =>
     have HO : Hid (RV = false) := Lib.hid (by rw [HV.out]; simp)
     clear HV;go_enter Tryz.func46, Tryz.ntmps46
     go_wp2_with (go_at_call 42; refine (in3_any _ _ _ _).mono ?_; rintro e w3 ⟨rfl, e0⟩; subst w3; first | rw [HK.out] | rw [HN.out] | rw [HM.out] | rw [HR.out])
     go_ret
     exact ⟨by rw [HO.out]; first | rfl | simp, by first | exact hb0 | exact BLW⟩
   | true =>
     cases NB with
     | false =>
       have HO : Hid (RV = false) := Lib.hid (by rw [HV.out]; simp)
       clear HV;go_enter Tryz.func46, Tryz.ntmps46
       go_wp2_with (go_at_call 42; refine (in3_any _ _ _ _).mono ?_; rintro e w3 ⟨rfl, e0⟩; subst w3; first | rw [HK.out] | rw [HN.out] | rw [HM.out] | rw [HR.out])
       go_ret
       exact ⟨by rw [HO.out]; first | rfl | simp, by first | exact hb0 | exact BLW⟩
     | true =>
       cases RB with
       | false =>
         have HO : Hid (RV = false) := Lib.hid (by rw [HV.out]; simp)
         clear HV;go_enter Tryz.func46, Tryz.ntmps46
         go_wp2_with (go_at_call 42; refine (in3_any _ _ _ _).mono ?_; rintro e w3 ⟨rfl, e0⟩; subst w3; first | rw [HK.out] | rw [HN.out] | rw [HM.out] | rw [HR.out])
         go_ret
         exact ⟨by rw [HO.out]; first | rfl | simp, by first | exact hb0 | exact BLW⟩
       | true =>
         have HO : Hid (RV = true) := Lib.hid (by rw [HV.out]; simp)
         clear HV;go_enter Tryz.func46, Tryz.ntmps46
         go_wp2_with (go_at_call 42; refine (in3_any _ _ _ _).mono ?_; rintro e w3 ⟨rfl, e0⟩; subst w3; first | rw [HK.out] | rw [HN.out] | rw [HM.out] | rw [HR.out])
         go_ret
         exact ⟨by rw [HO.out]; first | rfl | simp, by first | exact hb0 | exact BLW⟩
 have c2b : (cond == 2) = false := by simpa using c2
 by_cases c3 : cond = 3
 · subst c3
   by_cases k0 : k = 0
   · subst k0
     cases MB with
     | false =>
       have HO : Hid (RV = false) := Lib.hid (by rw [HV.out]; simp)
       clear HV;go_enter Tryz.func46, Tryz.ntmps46
       go_wp2_with (go_at_call 42; refine (in3_any _ _ _ _).mono ?_; rintro e w3 ⟨rfl, e0⟩; subst w3; first | rw [HK.out] | rw [HN.out] | rw [HM.out] | rw [HR.out])
       go_ret
       exact ⟨by rw [HO.out]; first | rfl | simp, by first | exact hb0 | exact BLW⟩
     | true =>
       cases RB with
       | false =>
         have HO : Hid (RV = false) := Lib.hid (by rw [HV.out]; simp)
         clear HV;go_enter Tryz.func46, Tryz.ntmps46
         go_wp2_with (go_at_call 42; refine (in3_any _ _ _ _).mono ?_; rintro e w3 ⟨rfl, e0⟩; subst w3; first | rw [HK.out] | rw [HN.out] | rw [HM.out] | rw [HR.out])
         go_ret
         exact ⟨by rw [HO.out]; first | rfl | simp, by first | exact hb0 | exact BLW⟩
       | true =>
         have HO : Hid (RV = true) := Lib.hid (by rw [HV.out]; simp)
         clear HV;go_enter Tryz.func46, Tryz.ntmps46
         go_wp2_with (go_at_call 42; refine (in3_any _ _ _ _).mono ?_; rintro e w3 ⟨rfl, e0⟩; subst w3; first | rw [HK.out] | rw [HN.out] | rw [HM.out] | rw [HR.out])
         go_ret
         exact ⟨by rw [HO.out]; first | rfl | simp, by first | exact hb0 | exact BLW⟩
   · have k0d : decide (k = 0) = false := by simpa using k0
     have k0b : (k == 0) = false := by simpa using k0
     have HO : Hid (RV = false) := Lib.hid (by rw [HV.out, k0d]; simp)
     clear HV;go_enter Tryz.func46, Tryz.ntmps46
     go_wp2_with (go_at_call 42; refine (in3_any _ _ _ _).mono ?_; rintro e w3 ⟨rfl, e0⟩; subst w3; first | rw [HK.out] | rw [HN.out] | rw [HM.out] | rw [HR.out])
     go_ret
     exact ⟨by rw [HO.out]; first | rfl | simp, by first | exact hb0 | exact BLW⟩
 have c3b : (cond == 3) = false := by simpa using c3
 have HO : Hid (RV = false) := Lib.hid (by rw [HV.out, if_neg c1, if_neg c2, if_neg c3]; simp)
 clear HV
 go_enter Tryz.func46, Tryz.ntmps46
 go_wp2_with (go_at_call 42; refine (in3_any _ _ _ _).mono ?_; rintro e w3 ⟨rfl, e0⟩; subst w3; first | rw [HK.out] | rw [HN.out] | rw [HM.out] | rw [HR.out])
 go_ret
 exact ⟨by rw [HO.out]; first | rfl | simp, by first | exact hb0 | exact BLW⟩
end Go.Proofs.YtbmcngoeinginaaGreatDoor
namespace Go.Proofs.YtbmcngoeinginaaGreatDoor
open Go Go.RowKit
theorem turn_bad {B : Brd} {k : Nat} (hk : k < B.next.length) (h : okTurn B.turn B.next.length k = false) : validS B = false := by
 have := turn_no hk h
 simp [validS, this]
theorem row_ent {n : Int} {r : List Int} (hl : (r.length : Int) = n) (h : ∀ j, j < r.length → -1 ≤ r[j]?.getD 0 ∧ r[j]?.getD 0 < n) : rowOk n r = true := by
 unfold rowOk
 simp only [Bool.and_eq_true, decide_eq_true_eq, Bool.not_eq_true', List.any_eq_false]
 refine ⟨hl, fun x hx => ?_⟩
 obtain ⟨j, hj⟩ := List.getElem?_of_mem hx
 have hjl := (List.getElem?_eq_some_iff.1 hj).1
 have := h j hjl
 rw [hj, Option.getD_some] at this
 unfold outS
 simp only [Bool.or_eq_true, decide_eq_true_eq]
 omega
theorem row_out {n : Int} {r : List Int} {j : Nat} (hj : j < r.length) (h : r[j]?.getD 0 < -1 ∨ n ≤ r[j]?.getD 0) : rowOk n r = false := by
 unfold rowOk
 rw [Bool.and_eq_false_iff]
 right
 simp only [Bool.not_eq_false', List.any_eq_true]
 refine ⟨r[j], List.getElem_mem hj, ?_⟩
 rw [List.getElem?_eq_getElem hj, Option.getD_some] at h
 unfold outS
 simp only [Bool.or_eq_true, decide_eq_true_eq]
 exact h
set_option maxRecDepth 100000 in
set_option maxHeartbeats 4000000 in
theorem refValid_any (B : Brd) (an at_ : Option Addr) (cn ct N : Nat) (w : World) (hN : N ≤ w.heap.size) (hH : Held N w an at_ B) :
   Calls Tryz.prog 44 #[B.val an cn at_ ct] w fun e w' => e = .returned (.bool (validS B)) ∧ Below w.heap.size w w' := by
 by_cases h1 : B.cells < 1
 · have HO := Lib.hid (by simp [validS]; omega : validS B = false)
   go_enter Tryz.func44, Tryz.ntmps44;go_wp2
   go_ret
   exact ⟨by rw [HO.out]; rfl, by exact BLW⟩
 have h1' : decide (B.cells < 1) = false := by simpa using h1
 by_cases h2 : 64 < B.cells
 · have HO := Lib.hid (by simp [validS]; omega : validS B = false)
   go_enter Tryz.func44, Tryz.ntmps44;go_wp2
   go_ret
   exact ⟨by rw [HO.out]; rfl, by exact BLW⟩
 have h2' : decide (64 < B.cells) = false := by simpa using h2
 by_cases h3 : B.next.length < 1
 · have HO := Lib.hid (by simp [validS]; omega : validS B = false)
   have h3' : decide ((B.next.length : Int) < 1) = true := by simp; omega
   go_enter Tryz.func44, Tryz.ntmps44;go_wp2
   go_ret
   exact ⟨by rw [HO.out]; rfl, by exact BLW⟩
 have h3' : decide ((B.next.length : Int) < 1) = false := by simp; omega
 by_cases h4 : 8 < B.next.length
 · have HO := Lib.hid (by simp [validS]; omega : validS B = false)
   have h4' : decide ((8 : Int) < (B.next.length : Int)) = true := by simp; omega
   go_enter Tryz.func44, Tryz.ntmps44;go_wp2
   go_ret
   exact ⟨by rw [HO.out]; rfl, by exact BLW⟩
 have h4' : decide ((8 : Int) < (B.next.length : Int)) = false := by simp; omega
 by_cases h5 : B.turn.length = B.next.length
 · have h5' : ((B.turn.length : Int) != (B.next.length : Int)) = false := by simp [h5]
   have h1n : 1 ≤ B.cells := by omega
   have h2n : B.cells ≤ 64 := by omega
   have h4n : B.next.length ≤ 8 := by omega
   have HT := Lib.hid h5;clear h5;go_enter Tryz.func44, Tryz.ntmps44;go_wp2;obtain ⟨w1, hw1⟩ : ∃ w1, w.alloc (Obj.cells #[Value.int IntKind.i64 B.cells, Value.slice an B.next.length cn, Value.slice at_ B.turn.length ct] 34) = w1 := ⟨_, rfl⟩
   have hs1 : w1.heap.size = w.heap.size + 1 := by rw [← hw1]; simp
   have hB1 : Below w.heap.size w w1 := by rw [← hw1]; exact BLW
   have k0 : w1.cell? ⟨w.heap.size, 0, none⟩ = some (.int .i64 B.cells) := by rw [← hw1]; exact cell_new_at _ _ _ _ _ _ rfl rfl
   have k1 : w1.cell? ⟨w.heap.size, 1, none⟩ = some (.slice an B.next.length cn) := by rw [← hw1]; exact cell_new_at _ _ _ _ _ _ rfl rfl
   have k2 : w1.cell? ⟨w.heap.size, 2, none⟩ = some (.slice at_ B.turn.length ct) := by rw [← hw1]; exact cell_new_at _ _ _ _ _ _ rfl rfl
   have hH1 := hH.up hN hB1;rw [hw1];clear hw1;have HS1 := Lib.hid hs1
   have hN1 : N ≤ w1.heap.size := by omega
   clear hs1 hH
   go_loopw [4] (fun i wr => ∃ k : Nat, k ≤ B.next.length ∧ i = .int .i64 k ∧ (∀ j, j < k → rowOk B.cells (B.next[j]?.getD []) = true ∧ okTurn B.turn B.next.length j = true) ∧ Below w1.heap.size w1 wr)
     (fun i _ => B.next.length - (intOf i).toNat)
   case atStart => exact ⟨0, Nat.zero_le _, rfl, fun j hj => absurd hj (Nat.not_lt_zero _), Below.refl _ _⟩
   case round =>
     obtain ⟨k, hk, rfl, hall, hbr⟩ := hrel;have c0 := cell_keep hbr k0;have c1 := cell_keep hbr k1;have c2 := cell_keep hbr k2;have hHr := hH1.up hN1 hbr
     by_cases hlt : k < B.next.length
     · obtain ⟨b, off, aj, cj, hab, hbN, hc, hI⟩ := hHr.1.at_ hlt
       subst hab;generalize hr : B.next[k]?.getD [] = r at hc hI
       by_cases hl : (r.length : Int) = B.cells
       · have hl' : ((r.length : Int) != B.cells) = false := by simpa using hl
         obtain ⟨b2, off2, hat, hb2, hct⟩ := hHr.2.at_ (j := k) (by have := HT.out; omega)
         subst hat
         have hkt : k < B.turn.length := by have := HT.out; omega
         generalize hx : B.turn[k]?.getD 0 = x at hct
         by_cases t1 : x < 0
         · have HO := Lib.hid (turn_bad hlt (by simp [okTurn, hx]; omega) : validS B = false)
           clear hx hl;clear hall hr hI hHr hH1
           go_wp2_with fail
           go_quiet (fail);go_wp2
           go_ret
           exact ⟨by rw [HO.out]; rfl, by have := below_step hB1 hbr; exact BLW⟩
         have t1' : decide (x < 0) = false := by simpa using t1
         by_cases t2 : (B.next.length : Int) ≤ x
         · have HO := Lib.hid (turn_bad hlt (by simp [okTurn, hx]; omega) : validS B = false)
           clear hx hl;clear hall hr hI hHr hH1
           go_wp2_with fail
           go_quiet (fail);go_wp2
           go_ret
           exact ⟨by rw [HO.out]; rfl, by have := below_step hB1 hbr; exact BLW⟩
         have t2' : decide ((B.next.length : Int) ≤ x) = false := by simpa using t2
         obtain ⟨m, rfl⟩ := Int.eq_ofNat_of_zero_le (show 0 ≤ x by omega)
         have hmt : m < B.turn.length := by have := HT.out; omega
         obtain ⟨b3, off3, hat3, hb3, hct3⟩ := hHr.2.at_ (j := m) hmt
         cases hat3
         generalize hy : B.turn[m]?.getD 0 = y at hct3
         have t2n : decide (B.next.length ≤ m) = false := by simp; omega
         have hmn : m < B.next.length := by omega
         by_cases t3 : y = (k : Int)
         · have t3' : (y != (k : Int)) = false := by simpa using t3
           have HOT := Lib.hid (by simp [okTurn, hx, hy, t3]; omega : okTurn B.turn B.next.length k = true)
           have HA := Lib.hid hall;have HR := Lib.hid hr;have HL := Lib.hid hl
           have hN2 : N ≤ wr.heap.size := by have := hbr.size; omega
           clear hall hr hl hx hy t3
           go_wp2_with fail
           go_quiet (fail);go_wp2;generalize hwq : wr.drewN _ = wq
           have hbq : Below w1.heap.size w1 wq := by rw [← hwq]; exact below_drewN_ hbr _
           clear hwq c0 c1 c2 hc hct hct3 hI hHr
           go_loopw [5] (fun i wi => ∃ c : Nat, (c : Int) ≤ B.cells ∧ i = .int .i64 c ∧ (∀ j, j < c → -1 ≤ r[j]?.getD 0 ∧ r[j]?.getD 0 < B.cells) ∧ Below w1.heap.size w1 wi)
             (fun i _ => B.cells.toNat - (intOf i).toNat)
           case atStart => exact ⟨0, by omega, rfl, fun j hj => absurd hj (Nat.not_lt_zero _), hbq⟩
           case round =>
             obtain ⟨c, hcle, rfl, hcall, hbi⟩ := hrel;have c0 := cell_keep hbi k0;have c1 := cell_keep hbi k1;have c2 := cell_keep hbi k2
             by_cases hcc : (c : Int) < B.cells
             · obtain ⟨b', off', aj', cj', hab, hbN', hc, hI⟩ := (hH1.up hN1 hbi).1.at_ hlt
               cases hab
               rw [HR.out] at hc hI
               have hcr : c < r.length := by have := HL.out; omega
               obtain ⟨b4, off4, haj, hb4, hc4⟩ := hI.at_ hcr;subst haj;generalize hz : r[c]?.getD 0 = z at hc4
               by_cases z1 : z < -1
               · have HO := Lib.hid (row_no hlt (by rw [HR.out]; exact row_out hcr (.inl (by rw [hz]; exact z1))) : validS B = false)
                 clear hz;clear hcall hI
                 go_wp2_with fail
                 go_quiet (fail);go_wp2
                 go_ret
                 exact ⟨by rw [HO.out]; rfl, by have := below_step hB1 hbi; exact BLW⟩
               have z1' : decide (z < -1) = false := by simpa using z1
               by_cases z2 : B.cells ≤ z
               · have HO := Lib.hid (row_no hlt (by rw [HR.out]; exact row_out hcr (.inr (by rw [hz]; exact z2))) : validS B = false)
                 clear hz;clear hcall hI
                 go_wp2_with fail
                 go_quiet (fail);go_wp2
                 go_ret
                 exact ⟨by rw [HO.out]; rfl, by have := below_step hB1 hbi; exact BLW⟩
               have z2' : decide (B.cells ≤ z) = false := by simpa using z2
               have HZ := Lib.hid hz;have HC := Lib.hid hcall;clear hz hcall hI
               go_wp2_with fail
               go_quiet (fail);go_wp2
               go_roundw
               case rel => exact ⟨c + 1, by omega, by simp, fun j hj => by
                 by_cases e : j = c
                 · rw [e, HZ.out]; omega
                 · exact HC.out j (by omega), below_drewN_ hbi _⟩
               case measure => simp [intOf]; omega
             · have HC := Lib.hid (row_ent HL.out (fun j hj => hcall j (by have := HL.out; omega)) : rowOk B.cells r = true)
               clear hcall;go_wp2
               go_roundw
               case rel => exact ⟨k + 1, by omega, by simp, fun j hj => by
                 by_cases e : j = k
                 · rw [e, HR.out]; exact ⟨HC.out, HOT.out⟩
                 · exact HA.out j (by omega), hbi⟩
               case measure => simp [intOf]; omega
         · have t3' : (y != (k : Int)) = true := by simpa using t3
           have HO := Lib.hid (turn_bad hlt (by simp [okTurn, hx, hy, t3]) : validS B = false);clear hx hl hy;clear hall hr hI hHr hH1
           go_wp2_with fail
           go_quiet (fail);go_wp2
           go_ret
           exact ⟨by rw [HO.out]; rfl, by have := below_step hB1 hbr; exact BLW⟩
       · have hl' : ((r.length : Int) != B.cells) = true := by simpa using hl
         have HO := Lib.hid (row_no hlt (by rw [hr]; simp [rowOk, hl]) : validS B = false)
         clear hall hr hI hHr hH1
         go_wp2_with fail
         go_quiet (fail);go_wp2
         go_ret
         exact ⟨by rw [HO.out]; rfl, by have := below_step hB1 hbr; exact BLW⟩
     · obtain rfl : k = B.next.length := by omega
       have HO := Lib.hid (by
         have e1 : B.next.all (rowOk B.cells) = true := by
           rw [List.all_eq_true];intro r hr;obtain ⟨i, hi⟩ := List.getElem?_of_mem hr;have := (hall i (List.getElem?_eq_some_iff.1 hi).1).1
           rwa [hi] at this
         have e2 : turnS B.turn B.next.length = true := by
           rw [← HT.out]
           exact turn_yes (fun j hj => by rw [HT.out]; exact (hall j (by have := HT.out; omega)).2)
         simp [validS, e1, e2]; omega : validS B = true)
       clear hall;go_wp2
       go_ret
       exact ⟨by rw [HO.out]; rfl, by have := below_step hB1 hbr; exact BLW⟩
 · have HO := Lib.hid (by
     have : turnS B.turn B.next.length = false := by simp [turnS, h5]
     simp [validS, this] : validS B = false)
   have h5' : ((B.turn.length : Int) != (B.next.length : Int)) = true := by simp; omega
   go_enter Tryz.func44, Tryz.ntmps44;go_wp2
   go_ret
   exact ⟨by rw [HO.out]; rfl, by exact BLW⟩
end Go.Proofs.YtbmcngoeinginaaGreatDoor
namespace Go.Proofs.YtbmcngoeinginaaGreatDoor
open Go Go.RowKit
attribute [local irreducible] Go.wpQuiet
structure Mod (g : GameD) : Prop where
 next : g.b.next.length ≤ 2000
 kinds : g.kinds.length ≤ 2000
 progs : ∀ k ∈ g.kinds, k.progs.length ≤ 2000
 steps : ∀ k ∈ g.kinds, ∀ p ∈ k.progs, p.length ≤ 100
 clauses : g.clauses.length ≤ 2000
structure VC (w : World) (gb cb co : Nat) (v0 v1 v2 v3 v4 v5 v6 v7 v8 u0 u1 u2 u3 : Value) (W : World) : Prop where
 b : Below w.heap.size w W
 g0 : W.cell? ⟨gb, 0, none⟩ = some v0
 g1 : W.cell? ⟨gb, 1, none⟩ = some v1
 g2 : W.cell? ⟨gb, 2, none⟩ = some v2
 g3 : W.cell? ⟨gb, 3, none⟩ = some v3
 g4 : W.cell? ⟨gb, 4, none⟩ = some v4
 g5 : W.cell? ⟨gb, 5, none⟩ = some v5
 g6 : W.cell? ⟨gb, 6, none⟩ = some v6
 g7 : W.cell? ⟨gb, 7, none⟩ = some v7
 g8 : W.cell? ⟨gb, 8, none⟩ = some v8
 c0 : W.cell? ⟨cb, co, none⟩ = some u0
 c1 : W.cell? ⟨cb, co + 1, none⟩ = some u1
 c2 : W.cell? ⟨cb, co + 2, none⟩ = some u2
 c3 : W.cell? ⟨cb, co + 3, none⟩ = some u3
theorem VC.up {w W W' : World} {gb cb co : Nat} {v0 v1 v2 v3 v4 v5 v6 v7 v8 u0 u1 u2 u3 : Value} (h : VC w gb cb co v0 v1 v2 v3 v4 v5 v6 v7 v8 u0 u1 u2 u3 W) (hb : Below W.heap.size W W') : VC w gb cb co v0 v1 v2 v3 v4 v5 v6 v7 v8 u0 u1 u2 u3 W' :=
 ⟨below_step h.b hb, cell_keep hb h.g0, cell_keep hb h.g1, cell_keep hb h.g2, cell_keep hb h.g3, cell_keep hb h.g4, cell_keep hb h.g5, cell_keep hb h.g6, cell_keep hb h.g7, cell_keep hb h.g8, cell_keep hb h.c0, cell_keep hb h.c1, cell_keep hb h.c2, cell_keep hb h.c3⟩
set_option maxRecDepth 100000 in
set_option maxHeartbeats 4000000 in
theorem rvalid3_any (g : GameD) (x : GPl) (N : Nat) (w : World) (hm : Mod g) (hN : N ≤ w.heap.size) (hG : GameIn N w x g) :
   Calls Tryz.prog 23 #[.agg (g.cells x)] w fun e w' => e = .returned (.bool (validG g)) ∧ Below w.heap.size w w' := by
 have hb := below_alloc (Below.refl _ w) (.cells (g.cells x) 38)
 have hbox : (w.alloc (.cells (g.cells x) 38)).heap[w.heap.size]? = some (.cells (g.cells x) 38 (0, 0)) := World.alloc_heap_new _ _
 have HVB := Lib.hid (refValid_any g.b x.an x.at_ x.cn x.ct N (w.alloc (.cells (g.cells x) 38)) (Nat.le_trans hN hb.size) (hG.up hN hb).board)
 obtain ⟨B1, hB1⟩ : ∃ B1, (decide (1 ≤ (g.kinds.length : Int)) && decide ((g.kinds.length : Int) ≤ 6)) = B1 := ⟨_, rfl⟩
 obtain ⟨B2, hB2⟩ : ∃ B2, (decide (0 ≤ g.rights) && decide (g.rights ≤ 4)) = B2 := ⟨_, rfl⟩
 have HI1 : Hid ((decide (1 ≤ (g.kinds.length : Int)) && decide ((g.kinds.length : Int) ≤ 6)) = B1) := Lib.hid hB1
 have HI2 : Hid ((decide (0 ≤ g.rights) && decide (g.rights ≤ 4)) = B2) := Lib.hid hB2
 obtain ⟨RB, hRB⟩ : ∃ RB, resB g.blocked = RB := ⟨_, rfl⟩
 obtain ⟨RE, hRE⟩ : ∃ RE, resB g.endless = RE := ⟨_, rfl⟩
 have HRB : Hid ((decide (1 ≤ g.blocked) && decide (g.blocked ≤ 3)) = RB) := Lib.hid (by rw [← hRB]; rfl)
 have HRE : Hid ((decide (1 ≤ g.endless) && decide (g.endless ≤ 3)) = RE) := Lib.hid (by rw [← hRE]; rfl)
 have HVG : Hid (validG g = (validS g.b && (B1 && (B2 && (decide (g.clauses.length ≤ 6) && ((List.range g.kinds.length).all (kindAt g) && (!g.clauses.any (wrongC g) && (RB && RE)))))))) := Lib.hid (by
   unfold validG kindsB clausesB
   rw [← hB1, ← hB2, hRB, hRE, show decide (1 ≤ (g.kinds.length : Int)) = decide (1 ≤ g.kinds.length) from by rw [Bool.eq_iff_iff, decide_eq_true_eq, decide_eq_true_eq]; omega, show decide ((g.kinds.length : Int) ≤ 6) = decide (g.kinds.length ≤ 6) from by rw [Bool.eq_iff_iff, decide_eq_true_eq, decide_eq_true_eq]; omega]
   cases validS g.b <;> cases decide (1 ≤ g.kinds.length) <;> cases decide (g.kinds.length ≤ 6) <;> cases decide (0 ≤ g.rights) <;> cases decide (g.rights ≤ 4) <;> cases decide (g.clauses.length ≤ 6) <;> cases (List.range g.kinds.length).all (kindAt g) <;> simp)
 have HK1 : Hid (B1 = true → 1 ≤ g.kinds.length) := Lib.hid (fun h => by rw [← hB1, Bool.and_eq_true, decide_eq_true_eq] at h; omega)
 have HCE : Hid (validS g.b = true → 1 ≤ g.b.cells ∧ g.b.cells ≤ 64) := Lib.hid (fun h => by
   unfold validS at h;simp only [Bool.and_eq_true, decide_eq_true_eq] at h;exact h.1.1.1.1)
 have HKD := Lib.hid (fun (i : Nat) (hi : i < g.kinds.length) W (h1 : N ≤ W.heap.size) (h2 : GameIn N W x g) => rkind_any g x i N W hi hm.kinds (hm.steps _ (List.getElem_mem hi)) (hm.progs _ (List.getElem_mem hi)) h1 h2.kinds)
 have hcl := hm.clauses
 have hkl := hm.kinds
 have HG := Lib.hid hG
 clear hB1 hB2 hm hG hRB hRE
 unfold GameD.cells at *
 unfold Brd.val at HVB
 go_enter Tryz.func23, Tryz.ntmps23
 go_upto_region 1 with (fail)
 generalize w.alloc (.cells #[.int .i64 g.b.cells, .slice x.an g.b.next.length x.cn, .slice x.at_ g.b.turn.length x.ct, .slice x.ak g.kinds.length x.ck, .int .i64 g.rights, .bool g.must, .slice x.ac g.clauses.length x.cc, .int .i64 g.blocked, .int .i64 g.endless] 38) = w1 at *
 have q0 := bx_cell hbox 0 rfl
 have q1 := bx_cell hbox 1 rfl
 have q2 := bx_cell hbox 2 rfl
 have q3 := bx_cell hbox 3 rfl
 have q4 := bx_cell hbox 4 rfl
 have q5 := bx_cell hbox 5 rfl
 have q6 := bx_cell hbox 6 rfl
 have q7 := bx_cell hbox 7 rfl
 have q8 := bx_cell hbox 8 rfl
 go_wp2_with fail
 refine HVB.out.mono ?_
 rintro e w2 ⟨rfl, hb2⟩
 have hx2 := (hb2.block _ (bx_lt hbox)).trans hbox
 have HB2 := Lib.hid (below_step hb hb2)
 clear q0 q1 q2 q3 q4 q5 q6 q7 q8 hbox hb hb2 HVB
 have q0 := bx_cell hx2 0 rfl
 have q1 := bx_cell hx2 1 rfl
 have q2 := bx_cell hx2 2 rfl
 have q3 := bx_cell hx2 3 rfl
 have q4 := bx_cell hx2 4 rfl
 have q5 := bx_cell hx2 5 rfl
 have q6 := bx_cell hx2 6 rfl
 have q7 := bx_cell hx2 7 rfl
 have q8 := bx_cell hx2 8 rfl
 have HX2 := Lib.hid hx2
 clear hx2
 have HN2 : Hid (N ≤ w2.heap.size) := Lib.hid (Nat.le_trans hN HB2.out.size)
 have HG2 : Hid (GameIn N w2 x g) := Lib.hid (HG.out.up hN HB2.out)
 cases hv : validS g.b with
 | false =>
   have HO : Hid (validG g = false) := Lib.hid (by rw [HVG.out]; rw [hv, Bool.false_and])
   go_wp2_with (go_at_call 42; refine (in3_any _ _ _ _).mono ?_; rintro e w3 ⟨rfl, e0⟩; subst w3; first | rw [HI1.out] | rw [HI2.out] | rw [HRB.out] | rw [HRE.out])
   go_ret
   exact ⟨by rw [HO.out]; rfl, HB2.out⟩
 | true =>
   have HV1 := Lib.hid hv;clear hv
   cases hv1 : B1 with
   | false =>
     rw [hv1] at HI1 HVG;clear hv1
     have HO : Hid (validG g = false) := Lib.hid (by rw [HVG.out]; simp)
     go_wp2_with (go_at_call 42; refine (in3_any _ _ _ _).mono ?_; rintro e w3 ⟨rfl, e0⟩; subst w3; first | rw [HI1.out] | rw [HI2.out] | rw [HRB.out] | rw [HRE.out])
     go_ret
     exact ⟨by rw [HO.out]; rfl, HB2.out⟩
   | true =>
     rw [hv1] at HI1 HVG HK1;clear hv1
     cases hv2 : B2 with
     | false =>
       rw [hv2] at HI2 HVG;clear hv2
       have HO : Hid (validG g = false) := Lib.hid (by rw [HVG.out]; simp)
       go_wp2_with (go_at_call 42; refine (in3_any _ _ _ _).mono ?_; rintro e w3 ⟨rfl, e0⟩; subst w3; first | rw [HI1.out] | rw [HI2.out] | rw [HRB.out] | rw [HRE.out])
       go_ret
       exact ⟨by rw [HO.out]; rfl, HB2.out⟩
     | true =>
       rw [hv2] at HI2 HVG;clear hv2
       by_cases hc6 : 6 < g.clauses.length
       · have t6 : decide ((6 : Int) < (g.clauses.length : Int)) = true := by rw [decide_eq_true_eq]; omega
         have t6' : decide (6 < g.clauses.length) = true := by simpa using hc6
         have HO : Hid (validG g = false) := Lib.hid (by rw [HVG.out]; simp [show decide (g.clauses.length ≤ 6) = false from decide_eq_false_iff_not.2 (by omega)])
         go_wp2_with (go_at_call 42; refine (in3_any _ _ _ _).mono ?_; rintro e w3 ⟨rfl, e0⟩; subst w3; first | rw [HI1.out] | rw [HI2.out] | rw [HRB.out] | rw [HRE.out])
         go_ret
         exact ⟨by rw [HO.out]; rfl, HB2.out⟩
       have t6 : decide ((6 : Int) < (g.clauses.length : Int)) = false := by rw [decide_eq_false_iff_not]; omega
       have t6' : decide (6 < g.clauses.length) = false := by simpa using hc6
       have HVG2 : Hid (validG g = ((List.range g.kinds.length).all (kindAt g) && (!g.clauses.any (wrongC g) && (RB && RE)))) := Lib.hid (by rw [HVG.out, HV1.out, show decide (g.clauses.length ≤ 6) = true from by rw [decide_eq_true_eq]; omega]; rfl)
       have hk1 := HK1.out rfl;have hce := HCE.out HV1.out;clear HVG HK1 HCE HV1 hc6
       go_wp2_with (go_at_call 42; refine (in3_any _ _ _ _).mono ?_; rintro e w3 ⟨rfl, e0⟩; subst w3; first | rw [HI1.out] | rw [HI2.out] | rw [HRB.out] | rw [HRE.out])
       clear q0 q1 q2 q3 q4 q5 q6 q7 q8 HI1 HI2 t6 t6'
       go_loopw [3] (fun i wr => ∃ q : Nat, q ≤ g.kinds.length ∧ i = .int .i64 (q : Int) ∧ Hid (∀ j, j < q → kindAt g j = true) ∧ Hid (Below w2.heap.size w2 wr)) (fun i _ => g.kinds.length - (intOf i).toNat)
       case atStart => exact ⟨0, Nat.zero_le _, rfl, Lib.hid (fun j hj => absurd hj (Nat.not_lt_zero _)), Lib.hid (Below.refl _ _)⟩
       case round =>
         obtain ⟨q, hq, rfl, hall, HBR⟩ := hrel;have hxr := (HBR.out.block _ (bx_lt HX2.out)).trans HX2.out;have HXR := Lib.hid hxr;have q0 := bx_cell hxr 0 rfl;have q1 := bx_cell hxr 1 rfl;have q2 := bx_cell hxr 2 rfl;have q3 := bx_cell hxr 3 rfl;have q4 := bx_cell hxr 4 rfl;have q5 := bx_cell hxr 5 rfl;have q6 := bx_cell hxr 6 rfl;have q7 := bx_cell hxr 7 rfl;have q8 := bx_cell hxr 8 rfl;clear hxr
         by_cases hlt : q < g.kinds.length
         · have t3 : decide ((q : Int) < (g.kinds.length : Int)) = true := by rw [decide_eq_true_eq]; omega
           have HC := Lib.hid (HKD.out q hlt wr (Nat.le_trans HN2.out HBR.out.size) (HG2.out.up HN2.out HBR.out))
           cases hkq : kindAt g q with
           | false =>
             rw [hkq] at HC
             have HO : Hid (validG g = false) := Lib.hid (by rw [HVG2.out, range_no hlt hkq]; rfl)
             clear hkq
             go_wp2_with fail
             refine HC.out.mono ?_;rintro e w4 ⟨rfl, hb4⟩;have HB4 := Lib.hid (below_step HB2.out (below_step HBR.out hb4));clear hb4 q0 q1 q2 q3 q4 q5 q6 q7 q8;go_wp2
             go_ret
             exact ⟨by rw [HO.out]; rfl, HB4.out⟩
           | true =>
             rw [hkq] at HC;have HKQ := Lib.hid hkq;clear hkq
             go_wp2_with fail
             refine HC.out.mono ?_;rintro e w4 ⟨rfl, hb4⟩;have HB4 := Lib.hid (below_step HBR.out hb4);clear hb4 q0 q1 q2 q3 q4 q5 q6 q7 q8;go_wp2
             go_roundw
             case rel => exact ⟨q + 1, by omega, by go_num, Lib.hid (fun j hj => by
               by_cases e : j = q
               · rw [e]; exact HKQ.out
               · exact hall.out j (by omega)), HB4⟩
             case measure => simp [intOf]; omega
         · obtain rfl : q = g.kinds.length := by omega
           have HVG3 : Hid (validG g = (!g.clauses.any (wrongC g) && (RB && RE))) := Lib.hid (by rw [HVG2.out, show (List.range g.kinds.length).all (kindAt g) = true from List.all_eq_true.2 (fun j hj => hall.out j (List.mem_range.1 hj))]; rfl)
           clear HVG2 HKD hall;generalize wr = wo at *
           go_wp2_with fail
           clear q0 q1 q2 q3 q4 q5 q6 q7 q8
           go_loopw [4] (fun i wr => ∃ q : Nat, q ≤ g.clauses.length ∧ i = .int .i64 (q : Int) ∧ Hid (∀ j (hj : j < q) (hj2 : j < g.clauses.length), clauseB g (g.clauses[j]'hj2) = true) ∧ Hid (Below wo.heap.size wo wr)) (fun i _ => g.clauses.length - (intOf i).toNat)
           case atStart => exact ⟨0, Nat.zero_le _, rfl, Lib.hid (fun j hj => absurd hj (Nat.not_lt_zero _)), Lib.hid (Below.refl _ _)⟩
           case round =>
             obtain ⟨c, hc, rfl, hcal, HBI⟩ := hrel;have hxi := (HBI.out.block _ (bx_lt HXR.out)).trans HXR.out;have HBW : Hid (Below w2.heap.size w2 wr) := Lib.hid (below_step HBR.out HBI.out)
             by_cases hcl2 : c < g.clauses.length
             · obtain ⟨cb, co, hxc, hcn, u0, u1, u2, u3⟩ := (HG2.out.up HN2.out HBW.out).clauses.at_ hcl2
               have t5 : decide ((c : Int) < (g.clauses.length : Int)) = true := by rw [decide_eq_true_eq]; omega
               have c3 : (0 : Int) ≤ (c : Int) := by omega
               have c4 : (c : Int) < (g.clauses.length : Int) := by omega
               have HCL := Lib.hid (fun W => rclause_any g x (g.clauses[c]'hcl2).cond (g.clauses[c]'hcl2).kind (g.clauses[c]'hcl2).n (g.clauses[c]'hcl2).out W hce hk1 hkl);have HCB : Hid (∀ h : c < g.clauses.length, clauseB g (g.clauses[c]'h) = rightB g.b.cells g.kinds.length (g.clauses[c]'hcl2).cond (g.clauses[c]'hcl2).kind (g.clauses[c]'hcl2).n (g.clauses[c]'hcl2).out) := Lib.hid (fun _ => rfl);generalize (g.clauses[c]'hcl2).cond = e0 at *;generalize (g.clauses[c]'hcl2).kind = e1 at *;generalize (g.clauses[c]'hcl2).n = e2 at *;generalize (g.clauses[c]'hcl2).out = e3 at *;unfold GameD.cells at HCL;rw [hxc] at HCL hxi;generalize rightB g.b.cells g.kinds.length e0 e1 e2 e3 = rb at *;have q0 := bx_cell hxi 0 rfl;have q1 := bx_cell hxi 1 rfl;have q2 := bx_cell hxi 2 rfl;have q3 := bx_cell hxi 3 rfl;have q4 := bx_cell hxi 4 rfl;have q5 := bx_cell hxi 5 rfl
               have q6 := bx_cell hxi 6 rfl;have q7 := bx_cell hxi 7 rfl;have q8 := bx_cell hxi 8 rfl;have hC : VC wr w.heap.size cb (co + c * 4) _ _ _ _ _ _ _ _ _ _ _ _ _ wr := ⟨Below.refl _ _, q0, q1, q2, q3, q4, q5, q6, q7, q8, u0, u1, u2, u3⟩;have hC2 := hC.up (Below.refl _ _).drew;have HBQ : Hid (Below w.heap.size w wr) := Lib.hid (below_step HB2.out HBW.out);clear hC hxi u0 u1 u2 u3;go_upto_region 11 with (fail);clear q0 q1 q2 q3 q4 q5 q6 q7 q8;refine wp_region_quiet (C := VC wr w.heap.size cb (co + c * 4) _ _ _ _ _ _ _ _ _ _ _ _ _) (by kernel_rfl) (by kernel_rfl) hC2 ?_;clear hC2;dsimp only
               iterate 6
                 refine wpQuiet_val (v := ?_) (by rfl) ?_ ?_;rotate_left
                 · ((intro W hW; (try cases hW); go_simp); try with_reducible rfl)
                 (try simp only [pS])
               refine wpQuiet_val (v := .bool rb) (by rfl) (fun W hW => ?_) ?_
               · go_simp
                 exact (HCL.out W).mono fun e w' ⟨he, hb⟩ => ⟨he, hW.up hb⟩
               (try simp only [pS]);refine wpQuiet_val (v := ?_) (by rfl) ?_ ?_;rotate_left
               · ((intro W hW; (try cases hW); go_simp); try with_reducible rfl)
               (try simp only [pS]);refine wpQuiet_nil (fun w6 hW => ?_);have HB6 := Lib.hid hW.b;clear hW
               cases rb with
               | false =>
                 have HO : Hid (validG g = false) := Lib.hid (by rw [HVG3.out, List.any_eq_true.2 ⟨_, List.getElem_mem hcl2, by unfold wrongC; rw [HCB.out hcl2]; rfl⟩]; rfl)
                 go_wp2
                 go_ret
                 exact ⟨by rw [HO.out]; rfl, below_step HBQ.out HB6.out⟩
               | true =>
                 go_wp2
                 go_roundw
                 case rel =>
                   refine ⟨c + 1, by omega, by go_num, Lib.hid (fun j hj hj2 => ?_), Lib.hid (below_step HBI.out HB6.out)⟩
                   by_cases e : j < c
                   · exact hcal.out j e hj2
                   · obtain rfl : j = c := by omega
                     exact HCB.out hj2
                 case measure => simp [intOf]; omega
             · obtain rfl : c = g.clauses.length := by omega
               have HO : Hid (validG g = (RB && RE)) := Lib.hid (by
                 rw [HVG3.out, List.any_eq_false.2 (fun y hy => by
                   obtain ⟨j, hj, rfl⟩ := List.mem_iff_getElem.1 hy
                   unfold wrongC; rw [hcal.out j hj hj]; simp)]; rfl)
               have HBQ : Hid (Below w.heap.size w wr) := Lib.hid (below_step HB2.out HBW.out);have q0 := bx_cell hxi 0 rfl;have q1 := bx_cell hxi 1 rfl;have q2 := bx_cell hxi 2 rfl;have q3 := bx_cell hxi 3 rfl;have q4 := bx_cell hxi 4 rfl;have q5 := bx_cell hxi 5 rfl;have q6 := bx_cell hxi 6 rfl;have q7 := bx_cell hxi 7 rfl;have q8 := bx_cell hxi 8 rfl;clear hxi
               cases RB with
               | false =>
                 go_wp2_with (go_at_call 42; refine (in3_any _ _ _ _).mono ?_; rintro e w3 ⟨rfl, e0⟩; subst w3; first | rw [HRB.out] | rw [HRE.out])
                 go_ret
                 exact ⟨by rw [HO.out]; rfl, HBQ.out⟩
               | true =>
                 go_wp2_with (go_at_call 42; refine (in3_any _ _ _ _).mono ?_; rintro e w3 ⟨rfl, e0⟩; subst w3; first | rw [HRB.out] | rw [HRE.out])
                 go_ret
                 exact ⟨by rw [HO.out]; rfl, HBQ.out⟩
end Go.Proofs.YtbmcngoeinginaaGreatDoor
namespace Go.Proofs.YtbmcngoeinginaaGreatDoor
open Go Go.RowKit Go.Sort Go.Lib
theorem rword_len (op n : Nat) : (rwordS ((op : Int), (n : Int))).length ≤ 7 := by
 have := word_len op
 unfold rwordS
 rw [Int.toNat_natCast, List.length_append]
 split <;> simp <;> omega
theorem dig_byte (n : Nat) (h : n < 8) : (IntKind.u8.wrap (48 + (n : Int))) = 48 + (n : Int) := by
 have : n = 0 ∨ n = 1 ∨ n = 2 ∨ n = 3 ∨ n = 4 ∨ n = 5 ∨ n = 6 ∨ n = 7 := by omega
 rcases this with rfl | rfl | rfl | rfl | rfl | rfl | rfl | rfl <;> decide
theorem one_byte (n : Nat) (W : World) (b : Nat) (h : W.cell? ⟨b, 0, none⟩ = some (.int .u8 (48 + (n : Int)))) :
   (convert 22 9 (.slice (some ⟨b, 0, none⟩) 1 1)).run Tryz.prog W = .ok (.string ⟨#[UInt8.ofNat (48 + n)]⟩) W := by
 have hr := run_convert_bytes_arg (P := Tryz.prog) W 22 5 Tryz.underlying22 Tryz.underlying5 b 0 1 1 [48 + (n : Int)] rfl (fun i hi => by
   obtain rfl : i = 0 := by omega
   simpa using h) 9 Tryz.underlying9
 rw [hr]
 have e : (48 + (n : Int)).toNat = 48 + n := by omega
 simp [strOfNums, e]
set_option maxRecDepth 100000 in
set_option maxHeartbeats 2000000 in
theorem rword_any (op n : Nat) (w : World) (h11 : op < 11) (h8 : n < 8) :
   Calls Tryz.prog 62 #[.agg #[.int .i64 op, .int .i64 n]] w fun e w' => e = .returned (strV (rwordS ((op : Int), (n : Int)))) ∧ Below w.heap.size w w' := by
 have hval : rwordS ((op : Int), (n : Int)) = wordL[op]?.getD [] ++ if 3 ≤ op ∧ op ≤ 6 then [] else [UInt8.ofNat (48 + n)] := by
   unfold rwordS;rw [Int.toNat_natCast, Int.toNat_natCast]
   congr 1
   by_cases h : 3 ≤ op ∧ op ≤ 6
   · rw [if_pos h, if_pos (by omega)]
   · rw [if_neg h, if_neg (by omega)]
 rw [hval]
 clear hval
 generalize hR : (wordL[op]?.getD [] ++ if 3 ≤ op ∧ op ≤ 6 then [] else [UInt8.ofNat (48 + n)]) = R
 have HR0 := Lib.hid hR
 clear hR
 have hwl : (wordL[op]?.getD []).length ≤ 6 := word_len op
 go_enter Tryz.func62, Tryz.ntmps62
 go_upto_region 2 with (fail)
 have x0 : ((w.alloc (.cells #[.int .i64 op, .int .i64 n] 91)).alloc (.cells #[.string ⟨#[]⟩, .string ⟨#[103, 111]⟩, .string ⟨#[115, 108, 105, 100, 101]⟩, .string ⟨#[101, 109, 112, 116, 121]⟩, .string ⟨#[101, 110, 101, 109, 121]⟩, .string ⟨#[102, 114, 105, 101, 110, 100]⟩, .string ⟨#[116, 97, 107, 101]⟩, .string ⟨#[112, 117, 115, 104]⟩, .string ⟨#[98, 101, 99, 111, 109, 101]⟩, .string ⟨#[110, 101, 101, 100]⟩, .string ⟨#[108, 111, 115, 101]⟩] 9)).cell? ⟨w.heap.size, 0, none⟩ = some (.int .i64 op) := cell_alloc_keep (cell_new_at _ _ _ _ _ _ rfl rfl) _
 have x1 : ((w.alloc (.cells #[.int .i64 op, .int .i64 n] 91)).alloc (.cells #[.string ⟨#[]⟩, .string ⟨#[103, 111]⟩, .string ⟨#[115, 108, 105, 100, 101]⟩, .string ⟨#[101, 109, 112, 116, 121]⟩, .string ⟨#[101, 110, 101, 109, 121]⟩, .string ⟨#[102, 114, 105, 101, 110, 100]⟩, .string ⟨#[116, 97, 107, 101]⟩, .string ⟨#[112, 117, 115, 104]⟩, .string ⟨#[98, 101, 99, 111, 109, 101]⟩, .string ⟨#[110, 101, 101, 100]⟩, .string ⟨#[108, 111, 115, 101]⟩] 9)).cell? ⟨w.heap.size, 1, none⟩ = some (.int .i64 n) := cell_alloc_keep (cell_new_at _ _ _ _ _ _ rfl rfl) _
 have xs : ((w.alloc (.cells #[.int .i64 op, .int .i64 n] 91)).alloc (.cells #[.string ⟨#[]⟩, .string ⟨#[103, 111]⟩, .string ⟨#[115, 108, 105, 100, 101]⟩, .string ⟨#[101, 109, 112, 116, 121]⟩, .string ⟨#[101, 110, 101, 109, 121]⟩, .string ⟨#[102, 114, 105, 101, 110, 100]⟩, .string ⟨#[116, 97, 107, 101]⟩, .string ⟨#[112, 117, 115, 104]⟩, .string ⟨#[98, 101, 99, 111, 109, 101]⟩, .string ⟨#[110, 101, 101, 100]⟩, .string ⟨#[108, 111, 115, 101]⟩] 9)).cell? ⟨w.heap.size + 1, op, none⟩ = some (.string ⟨(wordL[op]?.getD []).toArray⟩) := by
   have : op = 0 ∨ op = 1 ∨ op = 2 ∨ op = 3 ∨ op = 4 ∨ op = 5 ∨ op = 6 ∨ op = 7 ∨ op = 8 ∨ op = 9 ∨ op = 10 := by omega
   rcases this with rfl | rfl | rfl | rfl | rfl | rfl | rfl | rfl | rfl | rfl | rfl <;> exact cell_new_at _ _ _ _ _ _ (by simp) rfl
 have hb : Below w.heap.size w ((w.alloc (.cells #[.int .i64 op, .int .i64 n] 91)).alloc (.cells #[.string ⟨#[]⟩, .string ⟨#[103, 111]⟩, .string ⟨#[115, 108, 105, 100, 101]⟩, .string ⟨#[101, 109, 112, 116, 121]⟩, .string ⟨#[101, 110, 101, 109, 121]⟩, .string ⟨#[102, 114, 105, 101, 110, 100]⟩, .string ⟨#[116, 97, 107, 101]⟩, .string ⟨#[112, 117, 115, 104]⟩, .string ⟨#[98, 101, 99, 111, 109, 101]⟩, .string ⟨#[110, 101, 101, 100]⟩, .string ⟨#[108, 111, 115, 101]⟩] 9)) := below_alloc (below_alloc (Below.refl _ _) _) _
 generalize (w.alloc (.cells #[.int .i64 op, .int .i64 n] 91)).alloc (.cells #[.string ⟨#[]⟩, .string ⟨#[103, 111]⟩, .string ⟨#[115, 108, 105, 100, 101]⟩, .string ⟨#[101, 109, 112, 116, 121]⟩, .string ⟨#[101, 110, 101, 109, 121]⟩, .string ⟨#[102, 114, 105, 101, 110, 100]⟩, .string ⟨#[116, 97, 107, 101]⟩, .string ⟨#[112, 117, 115, 104]⟩, .string ⟨#[98, 101, 99, 111, 109, 101]⟩, .string ⟨#[110, 101, 101, 100]⟩, .string ⟨#[108, 111, 115, 101]⟩] 9 ) = w1 at *
 generalize wordL[op]?.getD [] = wd at *
 have l0 := World.block_lt_of_cell? _ _ x0
 have ls := World.block_lt_of_cell? _ _ xs
 have h11' : (op : Int) < 11 := by omega
 by_cases h36 : 3 ≤ op ∧ op ≤ 6
 · obtain ⟨h3, h6⟩ := h36
   have t1 : decide (3 ≤ (op : Int)) = true := by simp; omega
   have t2 : decide ((op : Int) ≤ 6) = true := by simp; omega
   have HR := Lib.hid (show R = wd by rw [← HR0.out, if_pos ⟨h3, h6⟩, List.append_nil]);clear h3 h6 HR0;go_wp2
   go_ret
   exact ⟨by rw [HR.out]; rfl, hb⟩
 · have HR := Lib.hid (show R = wd ++ [UInt8.ofNat (48 + n)] by rw [← HR0.out, if_neg h36])
   have hcv := one_byte n;have hs48 := IntWalk.i64_in (48 + (n : Int)) (by omega);have hd := dig_byte n h8;obtain ⟨z, hz⟩ : ∃ z : Int, z = 48 + (n : Int) := ⟨_, rfl⟩;generalize UInt8.ofNat (48 + n) = y at hcv HR;simp only [← hz] at hcv;rw [← hz] at hd
   replace hs48 : IntKind.i64.wrap (48 + (n : Int)) = z := by rw [hz]; exact hs48
   have HZ := Lib.hid hz;clear hz
   have hsum : ¬ 9223372036854775807 < wd.length + 1 := by omega
   have hcase : decide (3 ≤ (op : Int)) = false ∨ (decide (3 ≤ (op : Int)) = true ∧ decide ((op : Int) ≤ 6) = false) := by
     by_cases h3 : 3 ≤ op
     · right; constructor
       · simp; omega
       · simp; omega
     · left; simp; omega
   clear h36 HR0
   rcases hcase with t1 | ⟨t1, t2⟩
   all_goals
     go_upto_region 4 with (fail);refine wp_region_noPanic ?_;refine wp_region_held_drew (S := fun w' => w'.cell? ⟨w.heap.size, 0, none⟩ = some (.int .i64 op) ∧ w'.cell? ⟨w.heap.size, 1, none⟩ = some (.int .i64 n) ∧ w'.cell? ⟨w.heap.size + 1, op, none⟩ = some (.string ⟨wd.toArray⟩) ∧ Below w1.heap.size w1 w') (by kernel_rfl) ⟨x0, x1, xs, (Below.refl _ _).drew⟩ (fun hHeld => ?_);refine TK 0 ?_;(try simp only [pS]);refine TK 1 ?_;(try simp only [pS]);refine TK 2 ?_;(try simp only [pS]);refine TK 3 ?_;(try simp only [pS]);refine TK 4 ?_;(try simp only [pS]);refine TK 5 ?_;(try simp only [pS]);refine TK 6 ?_;(try simp only [pS]);refine TK 7 ?_;(try simp only [pS]);refine TK 8 ?_;(try simp only [pS]);refine wpAnyH_ready (rs := [9]) (by kernel_rfl) (by simp) ?_;refine AC (fun K hK => ?_) AllReadyH.nil;go_simp
     have hb9 : Below w1.heap.size w1 (w1.alloc (.cells #[.int .u8 z] 5)).drew := (below_alloc (Below.refl _ _) _).drew;refine hK.out _ _ ⟨cell_keep hb9 x0, cell_keep hb9 x1, cell_keep hb9 xs, hb9⟩ (fun hS9 => ?_);clear hK K;(try simp only [pS]);refine wpAnyH_ready (rs := [10]) (by kernel_rfl) (by simp) ?_;refine AC (fun K hK => ?_) AllReadyH.nil;go_simp;refine hK.out _ _ hS9 (fun hS10 => ?_);clear hK K;(try simp only [pS]);refine TK 11 ?_;(try simp only [pS]);refine TK 12 ?_;(try simp only [pS]);refine wpAnyH_done (by kernel_rfl) ?_ _;refine NoPanic.normal ?_;go_wp2
     go_ret
     exact ⟨by rw [HR.out]; rfl, below_step hb (by first | assumption | (exact BLW; done))⟩
end Go.Proofs.YtbmcngoeinginaaGreatDoor
namespace Go.Proofs.YtbmcngoeinginaaGreatDoor
open Go Go.RowKit Go.Sort Go.Lib
def rjoinTo (l : List (Int × Int)) (q : Nat) : List UInt8 := join ((l.take q).map rwordS) [32]
theorem join_snoc (xs : List (List UInt8)) (x : List UInt8) (h : xs ≠ []) : join (xs ++ [x]) [32] = join xs [32] ++ 32 :: x := by
 cases xs with
 | nil => exact absurd rfl h
 | cons y r =>
   rw [List.cons_append, join_cons, join_cons, List.append_assoc]
   congr 1
   induction r with
   | nil => simp [joinTail]
   | cons z r ih => 
     have e1 : joinTail [32] (z :: r ++ [x]) = 32 :: (z ++ joinTail [32] (r ++ [x])) := by simp [joinTail]
     have e2 : joinTail [32] (z :: r) = 32 :: (z ++ joinTail [32] r) := by simp [joinTail]
     rw [e1, e2, ih (by simp)]
     simp
theorem rjoin_succ (l : List (Int × Int)) (q : Nat) (h0 : 1 ≤ q) (h : q < l.length) : rjoinTo l (q + 1) = rjoinTo l q ++ 32 :: rwordS (l[q]?.getD (0, 0)) := by
 unfold rjoinTo
 rw [List.take_add_one, List.getElem?_eq_getElem h, Option.toList_some, List.map_append, List.map_cons, List.map_nil, Option.getD_some]
 exact join_snoc _ _ (by
   intro e;rw [List.map_eq_nil_iff, List.take_eq_nil_iff] at e
   rcases e with rfl | rfl
   · omega
   · simp at h)
theorem rjoin_one (l : List (Int × Int)) (h : 1 ≤ l.length) : rjoinTo l 1 = rwordS (l[0]?.getD (0, 0)) := by
 unfold rjoinTo
 cases l with
 | nil => simp at h
 | cons x r => simp [join_one]
theorem rjoin_len (l : List (Int × Int)) (hv : validP l 8 6 4 = true) : ∀ q, q ≤ l.length → (rjoinTo l q).length ≤ 8 * q
 | 0, _ => by simp [rjoinTo, join]
 | q + 1, h => by
   obtain ⟨op, n, e, _, _, _⟩ := valid_step hv (j := q) (by omega);have hw := rword_len op n
   by_cases h0 : 1 ≤ q
   · have ih := rjoin_len l hv q (by omega)
     rw [rjoin_succ l q h0 (by omega), e];simp only [List.length_append, List.length_cons]
     omega
   · obtain rfl : q = 0 := by omega
     rw [rjoin_one l (by omega), e]
     omega
set_option maxRecDepth 100000 in
set_option maxHeartbeats 2000000 in
theorem rprint_any (l : List (Int × Int)) (a : Option Addr) (c N : Nat) (w : World) (hl : l.length ≤ 100) (hN : N ≤ w.heap.size) (hI : Prg N w a l) :
   Calls Tryz.prog 34 #[.slice a l.length c] w fun e w' => e = .returned (strV (printS l)) ∧ Below w.heap.size w w' := by
 rw [← rprint_eq]
 have HV := Lib.hid (rvalid_any l a c 8 6 4 N w hl hN hI)
 cases hv : validP l 8 6 4 with
 | false =>
   have HO := Lib.hid (by unfold rprintS; rw [hv]; rfl : rprintS l = [])
   have HX := Lib.hid hv;clear hv;go_enter Tryz.func34, Tryz.ntmps34
   go_wp2_with fail
   refine HV.out.mono ?_;rintro e w' ⟨rfl, hb⟩;rw [HX.out];go_wp2
   go_ret
   exact ⟨by rw [HO.out]; rfl, hb⟩
 | true =>
   have HO := Lib.hid (by unfold rprintS; rw [if_pos hv]; unfold rjoinTo; rw [List.take_length] : rprintS l = rjoinTo l l.length)
   have HX := Lib.hid hv;obtain ⟨hl1, hl8⟩ := valid_len hv;clear hv;go_enter Tryz.func34, Tryz.ntmps34
   go_wp2_with fail
   refine HV.out.mono ?_;rintro e w1 ⟨rfl, hb1⟩;rw [HX.out];have HI1 := Lib.hid (hI.up hN hb1);have hN1 := Nat.le_trans hN hb1.size;clear HV;obtain ⟨bs, fs, hab, hbN, hop, hnn⟩ := HI1.out.at_ (j := 0) (by omega);obtain ⟨op, n, hx, _, h11, h8⟩ := valid_step HX.out (j := 0) (by omega);have HR1 := Lib.hid (rjoin_one l hl1);rw [hx] at hop hnn;rw [hx] at HR1
   cases hab
   dsimp only at hop hnn;rw [Nat.zero_mul, Nat.add_zero] at hop hnn
   have hbw : bs < w1.heap.size := by omega
   clear hx
   go_wp2_with fail
   refine (rword_any op n w1 h11 h8).mono ?_;rintro e w2 ⟨rfl, hb2⟩;rw [← HR1.out];have hb12 := below_step hb1 hb2;clear hop hnn;unfold strV
   go_wp2_with fail
   go_loopw [3, 4] (fun o i wr => ∃ q : Nat, 1 ≤ q ∧ q ≤ l.length ∧ i = .int .i64 q ∧ o = .string ⟨(rjoinTo l q).toArray⟩ ∧ Below w.heap.size w wr)
     (fun _ i _ => l.length - (intOf i).toNat)
   case atStart => exact ⟨1, by omega, hl1, rfl, rfl, hb12⟩
   case round =>
     obtain ⟨q, hq1, hq, rfl, rfl, hbr⟩ := hrel
     by_cases hlt : q < l.length
     · obtain ⟨bs', fs', hab', hbN', hop, hnn⟩ := (hI.up hN hbr).at_ hlt
       cases hab'
       obtain ⟨op', n', hx, _, h11', h8'⟩ := valid_step HX.out hlt;have HS := Lib.hid (rjoin_succ l q hq1 hlt);have HLn := Lib.hid (rjoin_len l HX.out q (by omega));have hwl := rword_len op' n';rw [hx] at hop hnn;rw [hx] at HS;dsimp only at hop hnn
       have hbw' : bs < wr.heap.size := by have := hbr.size; omega
       have hln := HLn.out;generalize rjoinTo l q = J at *;clear hx
       go_wp2_with fail
       refine (rword_any op' n' wr h11' h8').mono ?_;rintro e w3 ⟨rfl, hb3⟩;have hbr3 := below_step hbr hb3;generalize rwordS ((op' : Int), (n' : Int)) = wd at *
       have hs1 : ¬ 9223372036854775807 < [(32 : UInt8)].length + wd.length := by simp; omega
       have hs2 : ¬ 9223372036854775807 < 1 + wd.length := by omega
       have hs3 : ¬ 9223372036854775807 < J.length + (1 + wd.length) := by omega
       have hs4 : ¬ 9223372036854775807 < J.length + (wd.length + 1) := by omega
       clear hop hnn;unfold strV;go_wp2
       go_roundw
       case rel => exact ⟨q + 1, by omega, by omega, by simp, by rw [HS.out]; simp [ByteArray.ext_iff], hbr3⟩
       case measure => simp [intOf]; omega
     · obtain rfl : q = l.length := by omega
       go_wp2
       go_ret
       exact ⟨by rw [HO.out]; rfl, hbr⟩
end Go.Proofs.YtbmcngoeinginaaGreatDoor
namespace Go.Proofs.YtbmcngoeinginaaGreatDoor
open Go Go.RowKit Go.Lib
attribute [local irreducible] Go.wpQuiet
theorem ints_new {W : World} (l : List Int) {b : Nat} (h : W.heap[b]? = some (.cells ((l.map (Value.int .i64)).toArray) 3 (0, 0))) : Ints W.heap.size W (some ⟨b, 0, none⟩) l :=
 .inr ⟨b, 0, rfl, bx_lt h, fun j hj => bx_cell h (0 + j) (by rw [Nat.zero_add]; simp [hj])⟩
theorem str_app (a b : List UInt8) : (⟨a.toArray⟩ : ByteArray) ++ ⟨b.toArray⟩ = ⟨(a ++ b).toArray⟩ := by
 apply ByteArray.ext
 simp [ByteArray.data_append]
theorem progT_eq (p : List (Int × Int)) : progT p = wProg ++ 32 :: printS p ++ [10] := by unfold progT lineT; rw [join_spaced]; simp [spaced]
theorem kindL_eq (k : KindD) : kindL k = wKind ++ 32 :: k.name ++ (if k.keep = true then 32 :: wKeep else []) ++ [10] := by
 unfold kindL lineT
 cases k.keep <;> simp [join_spaced, spaced]
theorem take_le {α : Type} (f : α → List UInt8) (l : List α) (q : Nat) : (((l.take q).map f).flatten).length ≤ ((l.map f).flatten).length := by
 have := flat_take (l.map f) q
 rwa [← List.map_take] at this
structure EC (w : World) (q : Nat) (u v : Int) (W : World) : Prop where
 b : Below w.heap.size w W
 c7 : W.cell? ⟨q, 7, none⟩ = some (.int .i64 u)
 c8 : W.cell? ⟨q, 8, none⟩ = some (.int .i64 v)
theorem EC.up {w W W' : World} {q : Nat} {u v : Int} (h : EC w q u v W) (hb : Below W.heap.size W W') : EC w q u v W' := ⟨below_step h.b hb, cell_keep hb h.c7, cell_keep hb h.c8⟩
set_option maxRecDepth 100000 in
set_option maxHeartbeats 4000000 in
theorem rprint3_any (g : GameD) (x : GPl) (N : Nat) (w : World) (hm : Mod g) (hN : N ≤ w.heap.size) (hG : GameIn N w x g) :
   Calls Tryz.prog 12 #[.agg (g.cells x)] w fun e w' => e = .returned (.string ⟨(printG g).toArray⟩) ∧ Below w.heap.size w w' := by
 have hb := below_alloc (Below.refl _ w) (.cells (g.cells x) 38)
 have hbox : (w.alloc (.cells (g.cells x) 38)).heap[w.heap.size]? = some (.cells (g.cells x) 38 (0, 0)) := World.alloc_heap_new _ _
 have HV := Lib.hid (rvalid3_any g x N (w.alloc (.cells (g.cells x) 38)) hm (Nat.le_trans hN hb.size) (hG.up hN hb))
 have HG1 := Lib.hid (hG.up hN hb)
 have HN1 := Lib.hid (Nat.le_trans hN hb.size)
 have HB1 := Lib.hid hb
 have HST := Lib.hid hm.steps
 clear hm hG hN
 unfold GameD.cells at *
 go_enter Tryz.func12, Tryz.ntmps12
 go_upto_region 1 with (fail)
 generalize w.alloc (.cells #[.int .i64 g.b.cells, .slice x.an g.b.next.length x.cn, .slice x.at_ g.b.turn.length x.ct, .slice x.ak g.kinds.length x.ck, .int .i64 g.rights, .bool g.must, .slice x.ac g.clauses.length x.cc, .int .i64 g.blocked, .int .i64 g.endless] 38) = w1 at *
 have q0 := bx_cell hbox 0 rfl
 have q1 := bx_cell hbox 1 rfl
 have q2 := bx_cell hbox 2 rfl
 have q3 := bx_cell hbox 3 rfl
 have q4 := bx_cell hbox 4 rfl
 have q5 := bx_cell hbox 5 rfl
 have q6 := bx_cell hbox 6 rfl
 have q7 := bx_cell hbox 7 rfl
 have q8 := bx_cell hbox 8 rfl
 go_wp2_with fail
 refine HV.out.mono ?_
 rintro e w2 ⟨rfl, hb2⟩
 have hx2 := (hb2.block _ (bx_lt hbox)).trans hbox
 have HB2 := Lib.hid (below_step HB1.out hb2)
 have HG2 := Lib.hid (HG1.out.up HN1.out hb2)
 have HN2 := Lib.hid (Nat.le_trans HN1.out hb2.size)
 clear q0 q1 q2 q3 q4 q5 q6 q7 q8 hbox hb hb2 HV HG1 HN1 HB1
 cases hv : validG g with
 | false =>
   have HO : Hid (printG g = []) := Lib.hid (by unfold printG; rw [hv]; rfl)
   clear hv;go_wp2
   go_ret
   exact ⟨by rw [HO.out]; rfl, HB2.out⟩
 | true =>
   have HBD := Lib.hid (validG_bounds hv)
   have HO : Hid (printG g = writtenG g) := Lib.hid (by unfold printG; rw [hv]; rfl)
   clear hv;obtain ⟨A0, hA0⟩ : ∃ A0, lineT [wBoard, itoa g.b.cells, itoa (g.b.next.length : Int)] = A0 := ⟨_, rfl⟩;obtain ⟨A2, hA2⟩ : ∃ A2, lineT (wTurn :: g.b.turn.map itoa) = A2 := ⟨_, rfl⟩;obtain ⟨A4, hA4⟩ : ∃ A4, lineT [wRights, itoa g.rights] = A4 := ⟨_, rfl⟩
   have HWR : Hid (writtenG g = A0 ++ (g.b.next.map dirT).flatten ++ A2 ++ (g.kinds.map kindT).flatten ++ A4 ++ mustT g ++ (g.clauses.map (clauseT g)).flatten ++ lineT [wBlocked, resW g.blocked.toNat] ++ lineT [wEndless, resW g.endless.toNat]) := Lib.hid (by
     rw [← hA0, ← hA2, ← hA4];unfold writtenG boardT kindsT;simp only [List.append_assoc])
   have hlen := written_le HBD.out;rw [HWR.out] at hlen;simp only [List.length_append] at hlen;have hcells := HBD.out.cells;have hnx := HBD.out.next;have htn := HBD.out.turn;have hkn := HBD.out.kinds;have hri := HBD.out.rights;have hcn := HBD.out.clauses;have hbw2 : Below w2.heap.size w2 (w2.alloc (.cells #[.int .i64 g.b.cells, .int .i64 (g.b.next.length : Int)] 3)) := below_alloc (Below.refl _ _) _
   have HNB : Hid (Calls Tryz.prog 33 #[.string ⟨#[98, 111, 97, 114, 100]⟩, .slice (some ⟨w2.heap.size, 0, none⟩) 2 2] (w2.alloc (.cells #[.int .i64 g.b.cells, .int .i64 (g.b.next.length : Int)] 3)) fun e w' => e = .returned (.string ⟨A0.toArray⟩) ∧ Below (w2.alloc (.cells #[.int .i64 g.b.cells, .int .i64 (g.b.next.length : Int)] 3)).heap.size (w2.alloc (.cells #[.int .i64 g.b.cells, .int .i64 (g.b.next.length : Int)] 3)) w') := Lib.hid (by
     rw [← hA0]
     exact rnums_any wBoard [g.b.cells, (g.b.next.length : Int)] (some ⟨w2.heap.size, 0, none⟩) 2 _ _ (by decide) (by simp) (by
       intro y hy;simp only [List.mem_cons, List.not_mem_nil, or_false] at hy
       rcases hy with rfl | rfl <;> omega) (Nat.le_refl _) (ints_new _ (World.alloc_heap_new _ _)))
   have HX2 := Lib.hid hx2;have q0 := bx_cell hx2 0 rfl;have q1 := bx_cell hx2 1 rfl;have q2 := bx_cell hx2 2 rfl;have q3 := bx_cell hx2 3 rfl;have q4 := bx_cell hx2 4 rfl;have q5 := bx_cell hx2 5 rfl;have q6 := bx_cell hx2 6 rfl;have q7 := bx_cell hx2 7 rfl;have q8 := bx_cell hx2 8 rfl;clear hx2
   go_wp2_with fail
   refine HNB.out.mono ?_;rintro e w3 ⟨rfl, hb3⟩;have HB3 := Lib.hid (below_step hbw2 hb3);clear hb3 HNB hbw2 q0 q1 q2 q3 q4 q5 q6 q7 q8;have HX3 := Lib.hid ((HB3.out.block _ (bx_lt HX2.out)).trans HX2.out);have HG3 := Lib.hid (HG2.out.up HN2.out HB3.out);have HN3 := Lib.hid (Nat.le_trans HN2.out HB3.out.size);have HBW3 := Lib.hid (below_step HB2.out HB3.out);clear HB3 HX2 HG2 HN2 HB2;go_wp2
   --A
   go_loopw [3, 4] (fun o i wr => ∃ q : Nat, q ≤ g.b.next.length ∧ i = .int .i64 (q : Int) ∧ o = .string ⟨(A0 ++ ((g.b.next.take q).map dirT).flatten).toArray⟩ ∧ Hid (Below w3.heap.size w3 wr)) (fun _ i _ => g.b.next.length - (intOf i).toNat)
   case atStart => exact ⟨0, Nat.zero_le _, rfl, by simp, Lib.hid (Below.refl _ _)⟩
   case round =>
     obtain ⟨q, hq, rfl, rfl, HBR⟩ := hrel;have hxr := (HBR.out.block _ (bx_lt HX3.out)).trans HX3.out;have hlq : ((g.b.next.take q).map dirT).flatten.length ≤ (g.b.next.map dirT).flatten.length := take_le dirT g.b.next q
     by_cases hlt : q < g.b.next.length
     · obtain ⟨b, off, aj, cj, hab, hbN, hc, hI⟩ := (HG3.out.up HN3.out HBR.out).board.1.at_ hlt
       have hrm : (g.b.next[q]?.getD []) ∈ g.b.next := by rw [List.getElem?_eq_getElem hlt]; exact List.getElem_mem hlt
       have hrb := HBD.out.row _ hrm;have HS : Hid ((A0 ++ ((g.b.next.take (q + 1)).map dirT).flatten) = (A0 ++ ((g.b.next.take q).map dirT).flatten) ++ dirT (g.b.next[q]?.getD [])) := Lib.hid (by rw [flat_succ dirT _ q hlt, List.getElem?_eq_getElem hlt, Option.getD_some, List.append_assoc]);have hlq2 : ((g.b.next.take (q + 1)).map dirT).flatten.length ≤ (g.b.next.map dirT).flatten.length := take_le dirT g.b.next (q + 1);have hsum := congrArg List.length HS.out;rw [List.length_append, List.length_append, List.length_append] at hsum;generalize hr : g.b.next[q]?.getD [] = r at *
       have HNB : Hid (Calls Tryz.prog 33 #[.string ⟨#[100, 105, 114]⟩, .slice aj r.length cj] wr fun e w' => e = .returned (.string ⟨(dirT r).toArray⟩) ∧ Below wr.heap.size wr w') := Lib.hid (rnums_any wDir r aj cj N wr (by decide) (by omega) (fun y hy => by have := hrb.2 y hy; omega) (Nat.le_trans HN3.out HBR.out.size) hI)
       have q1 := bx_cell hxr 1 rfl;rw [hab] at q1
       have t3 : decide ((q : Int) < (g.b.next.length : Int)) = true := by rw [decide_eq_true_eq]; omega
       have b3 : (0 : Int) ≤ (q : Int) := by omega
       have b4 : (q : Int) < (g.b.next.length : Int) := by omega
       have hsl : (A0 ++ ((g.b.next.take q).map dirT).flatten).length + (dirT r).length ≤ 100000 := by rw [List.length_append]; omega
       clear hxr hr hrm hrb hlq hlq2 hsum hI hlen hab;generalize A0 ++ ((g.b.next.take q).map dirT).flatten = J at *;generalize dirT r = dr at *
       have hs1 : ¬ 9223372036854775807 < J.length + dr.length := by omega
       go_wp2_with fail
       refine HNB.out.mono ?_;rintro e w4 ⟨rfl, hb4⟩;have HB4 := Lib.hid (below_step HBR.out hb4);clear hb4 q1;go_wp2
       go_roundw
       case rel => exact ⟨q + 1, by omega, by go_num, by rw [HS.out, str_app], HB4⟩
       case measure => simp [intOf]; omega
     · obtain rfl : q = g.b.next.length := by omega
       rw [List.take_length];generalize wr = w4 at *;have HX4 := Lib.hid hxr;have HG4 := Lib.hid (HG3.out.up HN3.out HBR.out);have HN4 := Lib.hid (Nat.le_trans HN3.out HBR.out.size);have HBW4 := Lib.hid (below_step HBW3.out HBR.out);clear HX3 HG3 HN3 HBW3 HBR hlq hlt hxr
       have HNB : Hid (Calls Tryz.prog 33 #[.string ⟨#[116, 117, 114, 110]⟩, .slice x.at_ g.b.turn.length x.ct] w4 fun e w' => e = .returned (.string ⟨A2.toArray⟩) ∧ Below w4.heap.size w4 w') := Lib.hid (by
         rw [← hA2]
         exact rnums_any wTurn g.b.turn x.at_ x.ct N w4 (by decide) (by omega) (fun y hy => by have := HBD.out.tin y hy; omega) HN4.out HG4.out.board.2)
       have hsl : (A0 ++ (g.b.next.map dirT).flatten).length + A2.length ≤ 100000 := by rw [List.length_append]; omega
       obtain ⟨T1, hT1⟩ : ∃ T1, A0 ++ (g.b.next.map dirT).flatten = T1 := ⟨_, rfl⟩;rw [hT1] at hsl;rw [hT1] at HWR;rw [hT1]
       have hlen2 : T1.length + A2.length + (g.kinds.map kindT).flatten.length + A4.length + (mustT g).length + (g.clauses.map (clauseT g)).flatten.length + (lineT [wBlocked, resW g.blocked.toNat]).length + (lineT [wEndless, resW g.endless.toNat]).length ≤ 100000 := by
         rw [← hT1, List.length_append]; omega
       have hs1 : ¬ 9223372036854775807 < T1.length + A2.length := by omega
       clear hlen hT1;have q1 := bx_cell HX4.out 1 rfl;have q2 := bx_cell HX4.out 2 rfl
       go_wp2_with fail
       refine HNB.out.mono ?_;rintro e w5 ⟨rfl, hb5⟩;have HX5 := Lib.hid ((hb5.block _ (bx_lt HX4.out)).trans HX4.out);have HG5 := Lib.hid (HG4.out.up HN4.out hb5);have HN5 := Lib.hid (Nat.le_trans HN4.out hb5.size);have HBW5 := Lib.hid (below_step HBW4.out hb5);clear q1 q2 HX4 HG4 HN4 HBW4 hb5 HNB hs1 hsl;go_wp2;obtain ⟨T2, hT2⟩ : ∃ T2, T1 ++ A2 = T2 := ⟨_, rfl⟩
       have hT2l : T2.length = T1.length + A2.length := by rw [← hT2, List.length_append]
       rw [hT2] at HWR;rw [← hT2l] at hlen2
       --B
       go_loopw [3, 5] (fun o i wr => ∃ q : Nat, q ≤ g.kinds.length ∧ i = .int .i64 (q : Int) ∧ o = .string ⟨(T2 ++ ((g.kinds.take q).map kindT).flatten).toArray⟩ ∧ Hid (Below w5.heap.size w5 wr)) (fun _ i _ => g.kinds.length - (intOf i).toNat)
       case atStart => exact ⟨0, Nat.zero_le _, rfl, by rw [str_app, hT2]; simp, Lib.hid (Below.refl _ _)⟩
       case round =>
         obtain ⟨q, hq, rfl, rfl, HBR⟩ := hrel;have hxr := (HBR.out.block _ (bx_lt HX5.out)).trans HX5.out;have hlq : ((g.kinds.take q).map kindT).flatten.length ≤ (g.kinds.map kindT).flatten.length := take_le kindT g.kinds q;generalize wr = w6 at *
         by_cases hlt : q < g.kinds.length
         · obtain ⟨b, off, aj, cj, hab, hbN, z0, z1, zP, z2⟩ := (HG5.out.up HN5.out HBR.out).kinds.at_ hlt
           have HS : Hid ((T2 ++ ((g.kinds.take (q + 1)).map kindT).flatten) = (T2 ++ ((g.kinds.take q).map kindT).flatten) ++ kindL (g.kinds[q]'hlt) ++ ((g.kinds[q]'hlt).progs.map progT).flatten) := Lib.hid (by rw [flat_succ kindT _ q hlt]; unfold kindT; simp only [List.append_assoc])
           have hlq2 : ((g.kinds.take (q + 1)).map kindT).flatten.length ≤ (g.kinds.map kindT).flatten.length := take_le kindT g.kinds (q + 1);have hsum := congrArg List.length HS.out;simp only [List.length_append] at hsum;have hst := HST.out _ (List.getElem_mem hlt);have hkb := HBD.out.kind _ (List.getElem_mem hlt);obtain ⟨kq, hkq⟩ : ∃ kq, g.kinds[q]'hlt = kq := ⟨_, rfl⟩;rw [hkq] at z0 z1 zP z2 HS hsum hst hkb;clear hkq
           have t3 : decide ((q : Int) < (g.kinds.length : Int)) = true := by rw [decide_eq_true_eq]; omega
           have b3 : (0 : Int) ≤ (q : Int) := by omega
           have b4 : (q : Int) < (g.kinds.length : Int) := by omega
           have hsl : (T2 ++ ((g.kinds.take q).map kindT).flatten).length + (kindL kq).length + ((kq.progs.map progT).flatten).length ≤ 100000 := by rw [List.length_append]; omega
           have HLEN2 := Lib.hid hlen2;have HX6 := Lib.hid hxr;have HZ1 := Lib.hid z1;have HZP := Lib.hid zP;have HAB := Lib.hid hab;clear hlq hlq2 hsum hlen2 zP z1;obtain ⟨J, hJ⟩ : ∃ J, T2 ++ ((g.kinds.take q).map kindT).flatten = J := ⟨_, rfl⟩;rw [hJ] at HS hsl;rw [hJ];clear hJ;have q3 := bx_cell hxr 3 rfl;rw [hab] at q3;clear hxr hab;have hkl := congrArg List.length (kindL_eq kq);simp only [List.length_append, List.length_cons, List.length_nil] at hkl;have h4 : wKind.length = 4 := rfl;rw [h4] at hkl;have HKL := Lib.hid (kindL_eq kq);have HPN : Hid (∀ p ∈ kq.progs, p.length ≤ 100) := Lib.hid hst;generalize (kindL kq) = KL at *;generalize kq.keep = kp at *;generalize kq.name = nm at *;generalize kq.progs = ps at *
           have hs1 : ¬ 9223372036854775807 < 5 + nm.length := by omega
           have hs2 : ¬ 9223372036854775807 < J.length + (5 + nm.length) := by omega
           have hs3 : ¬ 9223372036854775807 < J.length + (nm.length + 5) := by omega
           go_upto_if 64 with (fail);obtain ⟨KH, hKH⟩ : ∃ KH, wKind ++ 32 :: nm ++ (if kp = true then 32 :: wKeep else []) = KH := ⟨_, rfl⟩;rw [hKH] at HKL
           have hKHl : KH.length + 1 = KL.length := by rw [HKL.out, List.length_append]; rfl
           go_cut [3] from 65 to 66 (fun v wx => v = .string ⟨(J ++ KH).toArray⟩ ∧ w6 = wx)
           case first =>
             cases kp with
             | true =>
               have hs4 : ¬ 9223372036854775807 < J.length + (5 + nm.length) + 5 := by omega
               have hs5 : ¬ 9223372036854775807 < J.length + (nm.length + 5) + 5 := by omega
               go_wp2
               go_meet
               exact ⟨by rw [← hKH]; simp [ByteArray.ext_iff, wKind, wKeep], rfl⟩
             | false =>
               go_wp2
               go_meet
               exact ⟨by rw [← hKH]; simp [ByteArray.ext_iff, wKind], rfl⟩
           case rest =>
             obtain ⟨hv3, hwc⟩ := hcut;subst hv3;subst hwc;have HKE : Hid (J ++ KL = (J ++ KH) ++ [10]) := Lib.hid (by rw [HKL.out, List.append_assoc])
             have hjk : (J ++ KH).length + 1 + ((ps.map progT).flatten).length ≤ 100000 := by rw [List.length_append]; omega
             have hs6 : ¬ 9223372036854775807 < (J ++ KH).length + 1 := by omega
             clear hs1 hs2 hs3 hkl hKH hKHl hst z0 z2 q3 hsl h4;obtain ⟨JK, hJK⟩ : ∃ JK, J ++ KH = JK := ⟨_, rfl⟩;rw [hJK] at HKE hjk hs6 ⊢;clear hJK;go_wp2;clear hs6
             --C
             go_loopw [3, 6] (fun o i wr => ∃ j : Nat, j ≤ ps.length ∧ i = .int .i64 (j : Int) ∧ o = .string ⟨((J ++ KL) ++ ((ps.take j).map progT).flatten).toArray⟩ ∧ Hid (Below w6.heap.size w6 wr)) (fun _ i _ => ps.length - (intOf i).toNat)
             case atStart => exact ⟨0, Nat.zero_le _, rfl, by rw [HKE.out]; simp [ByteArray.ext_iff], Lib.hid (Below.refl _ _)⟩
             case round =>
               obtain ⟨j, hj, rfl, rfl, HBJ⟩ := hrel;generalize wr = w7 at *;have hx7 := (HBJ.out.block _ (bx_lt HX6.out)).trans HX6.out;have q3 := bx_cell hx7 3 rfl;rw [HAB.out] at q3;have z1 := cell_keep HBJ.out HZ1.out;have HN6 : Hid (N ≤ w6.heap.size) := Lib.hid (Nat.le_trans HN5.out HBR.out.size);have HN7 : Hid (N ≤ w7.heap.size) := Lib.hid (Nat.le_trans HN6.out HBJ.out.size);clear hx7
               by_cases hjt : j < ps.length
               · obtain ⟨pb, po, aq, cq, hja, hpb, p0, hPq⟩ := (HZP.out.up HN6.out HBJ.out).at_ hjt
                 rw [hja] at z1
                 have HSJ : Hid (((J ++ KL) ++ ((ps.take (j + 1)).map progT).flatten) = ((J ++ KL) ++ ((ps.take j).map progT).flatten) ++ progT (ps[j]'hjt)) := Lib.hid (by rw [flat_succ progT _ j hjt]; simp only [List.append_assoc])
                 have hl1 := congrArg List.length HSJ.out;have hl2 := take_le progT ps (j + 1);have hl3 := congrArg List.length HKE.out;have hl4 := congrArg List.length (progT_eq (ps[j]'hjt));simp only [List.length_append, List.length_cons, List.length_nil] at hl1 hl3 hl4;have h5 : wProg.length = 4 := rfl;have HPT := Lib.hid (progT_eq (ps[j]'hjt));have HPR := Lib.hid (rprint_any (ps[j]'hjt) aq cq N w7 (HPN.out _ (List.getElem_mem hjt)) HN7.out hPq)
                 have d3 : decide ((j : Int) < (ps.length : Int)) = true := by rw [decide_eq_true_eq]; omega
                 have c3 : (0 : Int) ≤ (j : Int) := by omega
                 have c4 : (j : Int) < (ps.length : Int) := by omega
                 unfold strV at HPR
                 have hjl : ((J ++ KL) ++ ((ps.take j).map progT).flatten).length + (progT (ps[j]'hjt)).length ≤ 100000 := by
                   simp only [List.length_append]
                   omega
                 have hpb2 : pb < w7.heap.size := Nat.lt_of_lt_of_le hpb HN7.out;clear hPq hja hl1 hl2 hl3;generalize ((J ++ KL) ++ ((ps.take j).map progT).flatten) = JJ at *;generalize progT (ps[j]'hjt) = pt at *;generalize (ps[j]'hjt) = pj at *;generalize printS pj = pr at *
                 have e1 : ¬ 9223372036854775807 < 5 + pr.length := by omega
                 have e2 : ¬ 9223372036854775807 < 5 + pr.length + 1 := by omega
                 have e3 : ¬ 9223372036854775807 < JJ.length + (5 + pr.length + 1) := by omega
                 clear hl4 hjl h5
                 go_wp2_with fail
                 refine HPR.out.mono ?_;rintro e w8 ⟨rfl, hb8⟩;have HB8 := Lib.hid (below_step HBJ.out hb8);clear hb8 q3 z1 p0;go_wp2
                 go_roundw
                 case rel => exact ⟨j + 1, by omega, by go_num, by rw [HSJ.out, HPT.out]; simp [ByteArray.ext_iff, wProg], HB8⟩
                 case measure => simp [intOf]; omega
               · obtain rfl : j = ps.length := by omega
                 have HSK : Hid (((J ++ KL) ++ ((ps.take ps.length).map progT).flatten) = (T2 ++ ((g.kinds.take (q + 1)).map kindT).flatten)) := Lib.hid (by rw [HS.out, List.take_length]);have HBF : Hid (Below w5.heap.size w5 w7) := Lib.hid (below_step HBR.out HBJ.out);clear hjt;go_wp2;clear q3 z1
                 go_roundw
                 case rel => exact ⟨q + 1, by omega, by go_num, by rw [HSK.out], HBF⟩
                 case measure => simp [intOf]; omega
         · obtain rfl : q = g.kinds.length := by omega
           rw [List.take_length];have HX6 := Lib.hid hxr;have HG6 := Lib.hid (HG5.out.up HN5.out HBR.out);have HN6 := Lib.hid (Nat.le_trans HN5.out HBR.out.size);have HBW6 := Lib.hid (below_step HBW5.out HBR.out);clear HX5 HG5 HN5 HBW5 HBR hlq hlt hxr hT2l hT2;obtain ⟨T3, hT3⟩ : ∃ T3, T2 ++ (g.kinds.map kindT).flatten = T3 := ⟨_, rfl⟩
           have hT3l : T3.length = T2.length + (g.kinds.map kindT).flatten.length := by rw [← hT3, List.length_append]
           rw [hT3] at HWR ⊢;rw [← hT3l] at hlen2;clear hT3 hT3l;have q3 := bx_cell HX6.out 3 rfl;have q4 := bx_cell HX6.out 4 rfl;have hbw6 : Below w6.heap.size w6 (w6.alloc (.cells #[.int .i64 g.rights] 3)) := below_alloc (Below.refl _ _) _
           have HNB : Hid (Calls Tryz.prog 33 #[.string ⟨#[114, 105, 103, 104, 116, 115]⟩, .slice (some ⟨w6.heap.size, 0, none⟩) 1 1] (w6.alloc (.cells #[.int .i64 g.rights] 3)) fun e w' => e = .returned (.string ⟨A4.toArray⟩) ∧ Below (w6.alloc (.cells #[.int .i64 g.rights] 3)).heap.size (w6.alloc (.cells #[.int .i64 g.rights] 3)) w') := Lib.hid (by
             rw [← hA4]
             exact rnums_any wRights [g.rights] (some ⟨w6.heap.size, 0, none⟩) 1 _ _ (by decide) (by simp) (by
               intro y hy;simp only [List.mem_cons, List.not_mem_nil, or_false] at hy
               subst hy; omega) (Nat.le_refl _) (ints_new _ (World.alloc_heap_new _ _)))
           have hs1 : ¬ 9223372036854775807 < T3.length + A4.length := by omega
           go_wp2_with fail
           refine HNB.out.mono ?_;rintro e w7 ⟨rfl, hb7⟩;have HB7 := Lib.hid (below_step hbw6 hb7);clear hb7 hbw6 q3 q4 HNB;have HX7 := Lib.hid ((HB7.out.block _ (bx_lt HX6.out)).trans HX6.out);have HG7 := Lib.hid (HG6.out.up HN6.out HB7.out);have HN7 := Lib.hid (Nat.le_trans HN6.out HB7.out.size);have HBW7 := Lib.hid (below_step HBW6.out HB7.out);clear HX6 HG6 HN6 HBW6 HB7;obtain ⟨mu, hmu0⟩ : ∃ mu, g.must = mu := ⟨_, rfl⟩
           have q5 : w7.cell? ⟨w.heap.size, 5, none⟩ = some (.bool mu) := by rw [← hmu0]; exact bx_cell HX7.out 5 rfl
           have HMU := Lib.hid hmu0;clear hmu0;go_upto_if 101 with (fail);clear q5 hs1
           go_cut [3] from 102 to 103 (fun v wx => v = .string ⟨((T3 ++ A4) ++ mustT g).toArray⟩ ∧ w7 = wx)
           case first =>
             cases mu with
             | true =>
               have HM : Hid (mustT g = [109, 117, 115, 116, 10]) := Lib.hid (by unfold mustT; rw [HMU.out]; rfl)
               have hml := congrArg List.length HM.out;simp only [List.length_cons, List.length_nil] at hml
               have hs1 : ¬ 9223372036854775807 < T3.length + A4.length + 5 := by omega
               go_wp2
               go_meet
               exact ⟨by rw [HM.out]; simp [ByteArray.ext_iff], rfl⟩
             | false =>
               have HM : Hid (mustT g = []) := Lib.hid (by unfold mustT; rw [HMU.out]; rfl)
               go_wp2
               go_meet
               exact ⟨by rw [HM.out]; simp [ByteArray.ext_iff], rfl⟩
           case rest =>
             obtain ⟨hv3, hwc⟩ := hcut;subst hv3;subst hwc
             have hml : ((T3 ++ A4) ++ mustT g).length = T3.length + A4.length + (mustT g).length := by rw [List.length_append, List.length_append]
             obtain ⟨T5, hT5⟩ : ∃ T5, (T3 ++ A4) ++ mustT g = T5 := ⟨_, rfl⟩;rw [hT5] at HWR hml ⊢;rw [← hml] at hlen2;clear hml hT5;go_wp2
             --D
             go_loopw [3, 7] (fun o i wr => ∃ q : Nat, q ≤ g.clauses.length ∧ i = .int .i64 (q : Int) ∧ o = .string ⟨(T5 ++ ((g.clauses.take q).map (clauseT g)).flatten).toArray⟩ ∧ Hid (Below w7.heap.size w7 wr)) (fun _ i _ => g.clauses.length - (intOf i).toNat)
             case atStart => exact ⟨0, Nat.zero_le _, rfl, by simp, Lib.hid (Below.refl _ _)⟩
             case round =>
               obtain ⟨q, hq, rfl, rfl, HBR⟩ := hrel;generalize wr = w8 at *;have hxr := (HBR.out.block _ (bx_lt HX7.out)).trans HX7.out;have hlq := take_le (clauseT g) g.clauses q
               by_cases hlt : q < g.clauses.length
               · obtain ⟨cb, co, hab, hbN, u0, u1, u2, u3⟩ := (HG7.out.up HN7.out HBR.out).clauses.at_ hlt
                 have HS : Hid ((T5 ++ ((g.clauses.take (q + 1)).map (clauseT g)).flatten) = (T5 ++ ((g.clauses.take q).map (clauseT g)).flatten) ++ clauseT g (g.clauses[q]'hlt)) := Lib.hid (by rw [flat_succ (clauseT g) _ q hlt, List.append_assoc]);have hlq2 := take_le (clauseT g) g.clauses (q + 1);have hsum := congrArg List.length HS.out;simp only [List.length_append] at hsum;have HLI := Lib.hid (fun W (h : Below w8.heap.size w8 W) => rline_any g x (g.clauses[q]'hlt) N W HBD.out (HBD.out.clause _ (List.getElem_mem hlt)) (Nat.le_trans (Nat.le_trans HN7.out HBR.out.size) h.size) ((HG7.out.up HN7.out HBR.out).kinds.up (Nat.le_trans HN7.out HBR.out.size) h))
                 have hsl : (T5 ++ ((g.clauses.take q).map (clauseT g)).flatten).length + (clauseT g (g.clauses[q]'hlt)).length ≤ 100000 := by simp only [List.length_append]; omega
                 generalize (T5 ++ ((g.clauses.take q).map (clauseT g)).flatten) = J at *;generalize clauseT g (g.clauses[q]'hlt) = ct at *;generalize (g.clauses[q]'hlt).cond = e0 at *;generalize (g.clauses[q]'hlt).kind = e1 at *;generalize (g.clauses[q]'hlt).n = e2 at *;generalize (g.clauses[q]'hlt).out = e3 at *;unfold GameD.cells at HLI;rw [hab] at HLI hxr;have q0 := bx_cell hxr 0 rfl;have q1 := bx_cell hxr 1 rfl;have q2 := bx_cell hxr 2 rfl;have q3 := bx_cell hxr 3 rfl;have q4 := bx_cell hxr 4 rfl;have q5 := bx_cell hxr 5 rfl;have q6 := bx_cell hxr 6 rfl;have q7 := bx_cell hxr 7 rfl;have q8 := bx_cell hxr 8 rfl
                 have t3 : decide ((q : Int) < (g.clauses.length : Int)) = true := by rw [decide_eq_true_eq]; omega
                 have b3 : (0 : Int) ≤ (q : Int) := by omega
                 have b4 : (q : Int) < (g.clauses.length : Int) := by omega
                 have hs1 : ¬ 9223372036854775807 < J.length + ct.length := by omega
                 have hC : VC w8 w.heap.size cb (co + q * 4) _ _ _ _ _ _ _ _ _ _ _ _ _ w8 := ⟨Below.refl _ _, q0, q1, q2, q3, q4, q5, q6, q7, q8, u0, u1, u2, u3⟩;have hC2 := hC.up (Below.refl _ _).drew;clear hC u0 u1 u2 u3 hab hxr hsum hlq hlq2 hlen2;go_upto_region 26 with (fail);clear q0 q1 q2 q3 q4 q5 q6 q7 q8;refine wp_region_quiet (C := VC w8 w.heap.size cb (co + q * 4) _ _ _ _ _ _ _ _ _ _ _ _ _) (by kernel_rfl) (by kernel_rfl) hC2 ?_;clear hC2;dsimp only
                 iterate 7
                   refine wpQuiet_val (v := ?_) (by rfl) ?_ ?_;rotate_left
                   · ((intro W hW; (try cases hW); go_simp); try with_reducible rfl)
                   (try simp only [pS])
                 refine wpQuiet_val (v := .string ⟨ct.toArray⟩) (by rfl) (fun W hW => ?_) ?_
                 · go_simp
                   exact (HLI.out W hW.b).mono fun e w' ⟨he, hb⟩ => ⟨he, hW.up hb⟩
                 (try simp only [pS])
                 iterate 2
                   refine wpQuiet_val (v := ?_) (by rfl) ?_ ?_;rotate_left
                   · ((intro W hW; (try cases hW); go_simp); try with_reducible rfl)
                   (try simp only [pS])
                 refine wpQuiet_nil (fun w9 hW => ?_);have HB9 := Lib.hid (below_step HBR.out hW.b);clear hW;go_wp2
                 go_roundw
                 case rel => exact ⟨q + 1, by omega, by go_num, by rw [HS.out, str_app], HB9⟩
                 case measure => simp [intOf]; omega
               · obtain rfl : q = g.clauses.length := by omega
                 rw [List.take_length];have HBW8 := Lib.hid (below_step HBW7.out HBR.out);have hC : EC w8 w.heap.size g.blocked g.endless w8 := ⟨Below.refl _ _, bx_cell hxr 7 rfl, bx_cell hxr 8 rfl⟩;have hC2 := hC.up (Below.refl _ _).drew;have q6 := bx_cell hxr 6 rfl;obtain ⟨T6, hT6⟩ : ∃ T6, T5 ++ (g.clauses.map (clauseT g)).flatten = T6 := ⟨_, rfl⟩
                 have hT6l : T6.length = T5.length + (g.clauses.map (clauseT g)).flatten.length := by rw [← hT6, List.length_append]
                 rw [hT6] at HWR ⊢;have hbl := HBD.out.blocked;have hen := HBD.out.endless
                 have HR1 : Hid (∀ W, Calls Tryz.prog 36 #[.int .i64 g.blocked] W fun e w' => e = .returned (.string ⟨(resW g.blocked.toNat).toArray⟩) ∧ Below W.heap.size W w') := Lib.hid (fun W => by
                   obtain ⟨b, hb⟩ := Int.eq_ofNat_of_zero_le (show 0 ≤ g.blocked by omega);rw [hb, Int.toNat_natCast];exact rres_any b (by omega) (by omega) W)
                 have HR2 : Hid (∀ W, Calls Tryz.prog 36 #[.int .i64 g.endless] W fun e w' => e = .returned (.string ⟨(resW g.endless.toNat).toArray⟩) ∧ Below W.heap.size W w') := Lib.hid (fun W => by
                   obtain ⟨b, hb⟩ := Int.eq_ofNat_of_zero_le (show 0 ≤ g.endless by omega);rw [hb, Int.toNat_natCast];exact rres_any b (by omega) (by omega) W)
                 have hr1 := resW_le g.blocked.toNat;have hr2 := resW_le g.endless.toNat
                 have HFIN : Hid (printG g = T6 ++ wBlocked ++ [32] ++ resW g.blocked.toNat ++ [10] ++ wEndless ++ [32] ++ resW g.endless.toNat ++ [10]) := Lib.hid (by
                   rw [HO.out, HWR.out]
                   simp [lineT, join_spaced, spaced])
                 generalize resW g.blocked.toNat = r1 at *;generalize resW g.endless.toNat = r2 at *;unfold wBlocked wEndless at HFIN
                 have hs1 : ¬ 9223372036854775807 < T6.length + 8 := by omega
                 have hs2 : ¬ 9223372036854775807 < T6.length + 8 + r1.length := by omega
                 have hs3 : ¬ 9223372036854775807 < T6.length + 8 + r1.length + 9 := by omega
                 have hs4 : ¬ 9223372036854775807 < T6.length + 8 + r1.length + 9 + r2.length := by omega
                 have hs5 : ¬ 9223372036854775807 < T6.length + 8 + r1.length + 9 + r2.length + 1 := by omega
                 clear hC hxr hlen2 hT6 hT6l hlq hlt;go_upto_region 27 with (fail);clear q6;refine wp_region_quiet (C := EC w8 w.heap.size g.blocked g.endless) (by kernel_rfl) (by kernel_rfl) hC2 ?_;clear hC2;dsimp only
                 iterate 4
                   refine wpQuiet_val (v := ?_) (by rfl) ?_ ?_;rotate_left
                   · ((intro W hW; (try cases hW); go_simp); try with_reducible rfl)
                   (try simp only [pS])
                 refine wpQuiet_val (v := .string ⟨r1.toArray⟩) (by rfl) (fun W hW => ?_) ?_
                 · go_simp
                   exact (HR1.out W).mono fun e w' ⟨he, hb⟩ => ⟨he, hW.up hb⟩
                 (try simp only [pS])
                 iterate 4
                   refine wpQuiet_val (v := ?_) (by rfl) ?_ ?_;rotate_left
                   · ((intro W hW; (try cases hW); go_simp); try with_reducible rfl)
                   (try simp only [pS])
                 refine wpQuiet_val (v := .string ⟨r2.toArray⟩) (by rfl) (fun W hW => ?_) ?_
                 · go_simp
                   exact (HR2.out W).mono fun e w' ⟨he, hb⟩ => ⟨he, hW.up hb⟩
                 (try simp only [pS])
                 iterate 3
                   refine wpQuiet_val (v := ?_) (by rfl) ?_ ?_;rotate_left
                   · ((intro W hW; (try cases hW); go_simp); try with_reducible rfl)
                   (try simp only [pS])
                 refine wpQuiet_nil (fun w9 hW => ?_);have HB9 := Lib.hid (below_step HBW8.out hW.b);clear hW;go_wp2
                 go_ret
                 exact ⟨by rw [HFIN.out]; simp [ByteArray.ext_iff], HB9.out⟩
end Go.Proofs.YtbmcngoeinginaaGreatDoor
