/-
 The reader of the package game: next, number, numbers, result.
 The reader of the package game: numbers and result.
 The reader of the package game: result.
 The reader of the package game: kind.
 The functions of lines that set a number of the game.
 The functions of lines for turn and must.
 Appends of one element to a list of the call's own, whatever its type.
 addClause of the reader.
 The function of lines for directions.
 The function of lines for the clause few.
 The functions of lines for the clauses lacks and holds.
 The function of lines for kinds.
-/
import Derived.Test.YtbmcngoeinginaaGreatDoorTk
import Derived.Test.YtbmcngoeinginaaGreatDoorCWrt
import Derived.Maps.OwnIn
import Derived.Test.YtbmcngoeinginaaGreatDoorCBas
import Derived.LoopN
import Derived.Deep.RegionHeld3
import Derived.RangeFuncBox
import Derived.Maps.AppendAt
namespace Go.Proofs.YtbmcngoeinginaaGreatDoor
open Go Go.RowKit Go.Lib
def RdBox (r : Nat) (c0 c1 c2 c3 c4 c5 c6 c7 c8 wv : Value) (W : World) : Prop := W.heap[r]? = some (.cells #[c0, c1, c2, c3, c4, c5, c6, c7, c8, wv] 112 (0, 0))
def WordsIn (W : World) (wv : Value) (ws : List (List UInt8)) : Prop :=
 ∃ a c, wv = .slice a ws.length c ∧ ws.length ≤ c ∧ (ws = [] ∨ ∃ b off cs, a = some ⟨b, off, none⟩ ∧ W.heap[b]? = some (.cells cs 9 (0, 0)) ∧ ∀ j (hj : j < ws.length), cs[off + j]? = some (.string ⟨(ws[j]'hj).toArray⟩))
theorem WordsIn.alters {W W' : World} {wv : Value} {ws : List (List UInt8)} {S : Nat → Prop} (h : WordsIn W wv ws) (ha : Alters S W W') (hS : ∀ k, S k → ∀ cs, W.heap[k]? ≠ some (.cells cs 9 (0, 0))) : WordsIn W' wv ws := by
 obtain ⟨a, c, e, hc, h⟩ := h
 refine ⟨a, c, e, hc, ?_⟩
 rcases h with h | ⟨b, off, cs, ea, hb, hcell⟩
 · exact .inl h
 · exact .inr ⟨b, off, cs, ea, (ha.block b (Array.getElem?_eq_some_iff.1 hb).1 (fun hs => hS b hs cs hb)).trans hb, hcell⟩
theorem WordsIn.up {W W' : World} {wv : Value} {ws : List (List UInt8)} (h : WordsIn W wv ws) (hb : Below W.heap.size W W') : WordsIn W' wv ws := h.alters (S := fun _ => False) (Alters.of_below hb) (fun _ h => h.elim)
theorem rd_not {r : Nat} {c0 c1 c2 c3 c4 c5 c6 c7 c8 wv : Value} {W : World} (hx : RdBox r c0 c1 c2 c3 c4 c5 c6 c7 c8 wv W) : ∀ k, k = r → ∀ cs, W.heap[k]? ≠ some (.cells cs 9 (0, 0)) := by
 intro k hk cs h
 subst hk
 unfold RdBox at hx
 rw [hx] at h
 cases h
def headW : List (List UInt8) → List UInt8
 | [] => []
 | x :: _ => x
def Rest (r : Nat) (c0 c1 c2 c3 c4 c5 c6 c7 c8 : Value) (ws : List (List UInt8)) (w w' : World) : Prop :=
 ∃ wv, RdBox r c0 c1 c2 c3 c4 c5 c6 c7 c8 wv w' ∧ WordsIn w' wv ws ∧ Alters (fun k => k = r) w w'
theorem bx_set_ {W : World} {B : Nat} {cs : Array Value} {t : TypeId} (h : W.heap[B]? = some (.cells cs t (0, 0))) (j : Nat) (v : Value) : (W.setCell ⟨B, j, none⟩ v).heap[B]? = some (.cells (cs.setIfInBounds j v) t (0, 0)) := by
 simp [World.setCell, Array.getElem?_modify, h]
theorem alters_refl (S : Nat → Prop) (w : World) : Alters S w w := ⟨rfl, rfl, rfl, Nat.le_refl _, fun _ _ _ => rfl⟩
theorem Rest.up {r : Nat} {c0 c1 c2 c3 c4 c5 c6 c7 c8 : Value} {ws : List (List UInt8)} {w w1 w2 : World} (h : Rest r c0 c1 c2 c3 c4 c5 c6 c7 c8 ws w w1) (hb : Below w1.heap.size w1 w2) : Rest r c0 c1 c2 c3 c4 c5 c6 c7 c8 ws w w2 := by
 obtain ⟨wv, hx, hw, ha⟩ := h
 exact ⟨wv, (hb.block r (bx_lt hx)).trans hx, hw.up hb, ha.trans (Alters.of_below hb)⟩
theorem Rest.then {r : Nat} {c0 c1 c2 c3 c4 c5 c6 c7 c8 : Value} {ws vs : List (List UInt8)} {w w1 w2 : World} (h : Rest r c0 c1 c2 c3 c4 c5 c6 c7 c8 ws w w1) (k : Rest r c0 c1 c2 c3 c4 c5 c6 c7 c8 vs w1 w2) : Rest r c0 c1 c2 c3 c4 c5 c6 c7 c8 vs w w2 := by
 obtain ⟨_, _, _, ha⟩ := h
 obtain ⟨wv, hx, hw, hb⟩ := k
 exact ⟨wv, hx, hw, ha.trans hb⟩
set_option maxRecDepth 100000 in
theorem next_word (r : Nat) (c0 c1 c2 c3 c4 c5 c6 c7 c8 wv : Value) (ws : List (List UInt8)) (w : World) (hx : RdBox r c0 c1 c2 c3 c4 c5 c6 c7 c8 wv w) (hw : WordsIn w wv ws) (hl : ws.length ≤ 1000) :
   Calls Tryz.prog 65 #[.pointer (some ⟨r, 0, none⟩)] w fun e w' => e = .returned (.string ⟨(headW ws).toArray⟩) ∧ Rest r c0 c1 c2 c3 c4 c5 c6 c7 c8 ws.tail w w' := by
 have HNO := Lib.hid (rd_not hx)
 unfold RdBox at hx
 have q9 := bx_cell hx 9 rfl
 have f9 := bx_frozen hx 9
 obtain ⟨a, c, rfl, hc, h⟩ := hw
 cases ws with
 | nil =>
   go_enter Tryz.func65, Tryz.ntmps65;go_wp2
   go_ret
   exact ⟨rfl, _, hx, ⟨a, c, rfl, hc, .inl rfl⟩, alters_refl _ _⟩
 | cons x xs =>
   rcases h with h | ⟨b, off, cs, rfl, hb, hcell⟩
   · cases h
   have z0 : w.cell? ⟨b, off, none⟩ = some (.string ⟨x.toArray⟩) := bx_cell hb off (hcell 0 (by simp))
   have hlen : ((x :: xs).length : Int) = (xs.length : Int) + 1 := by simp
   have t1 : (((xs.length : Int) + 1) == 0) = false := by rw [beq_eq_false_iff_ne]; omega
   have b1 : (1 : Int) ≤ (xs.length : Int) + 1 := by omega
   have b2 : (xs.length : Int) + 1 ≤ (c : Int) := by simp at hc; omega
   have HC := Lib.hid hcell;have HB := Lib.hid hb;have HX := Lib.hid hx;have HCL := Lib.hid hc;clear hcell hx hc hb
   have hfin : ∀ (a2 : Option Addr) (k2 : Nat), xs.length ≤ k2 → (xs = [] ∨ a2 = some ⟨b, off + 1, none⟩) → Rest r c0 c1 c2 c3 c4 c5 c6 c7 c8 xs w (w.setCell ⟨r, 9, none⟩ (.slice a2 xs.length k2)) := by
     intro a2 k2 h2 h3;have hal := alters_cell w r 9 (.slice a2 xs.length k2)
     refine ⟨_, by unfold RdBox; rw [bx_set_ HX.out 9]; rfl, ⟨a2, k2, rfl, h2, ?_⟩, hal⟩
     rcases h3 with h3 | h3
     · exact .inl h3
     · refine .inr ⟨b, off + 1, cs, h3, (hal.block b (bx_lt HB.out) (fun e => HNO.out b e cs HB.out)).trans HB.out, fun j hj => ?_⟩
       have := HC.out (j + 1) (by simp; omega)
       rw [show off + 1 + j = off + (j + 1) by omega];exact this
   have HF := Lib.hid hfin;clear hfin;go_enter Tryz.func65, Tryz.ntmps65;go_wp2
   · have hx0 : xs.length = 0 := by have := HCL.out; simp at this; omega
     have HX0 : Hid (xs = []) := Lib.hid (List.length_eq_zero_iff.1 hx0);clear hx0
     go_ret
     exact ⟨rfl, HF.out _ _ (by rw [HX0.out]; exact Nat.zero_le _) (.inl HX0.out)⟩
   · go_ret
     exact ⟨rfl, HF.out _ _ (by have := HCL.out; simp at this; omega) (.inr rfl)⟩
theorem Rest.parts {r : Nat} {c0 c1 c2 c3 c4 c5 c6 c7 c8 : Value} {ws : List (List UInt8)} {w w1 : World} (h : Rest r c0 c1 c2 c3 c4 c5 c6 c7 c8 ws w w1) : ∃ wv, RdBox r c0 c1 c2 c3 c4 c5 c6 c7 c8 wv w1 ∧ WordsIn w1 wv ws := by
 obtain ⟨wv, hx, hw, _⟩ := h
 exact ⟨wv, hx, hw⟩
theorem Rest.low {r : Nat} {c0 c1 c2 c3 c4 c5 c6 c7 c8 : Value} {ws : List (List UInt8)} {w w1 : World} (h : Rest r c0 c1 c2 c3 c4 c5 c6 c7 c8 ws w w1) (hr : r ≤ w.heap.size) : Below r w w1 := by
 obtain ⟨_, _, _, ha⟩ := h
 exact ha.below hr (fun k hk => Nat.le_of_eq (Eq.symm hk))
set_option maxRecDepth 100000 in
theorem number_word (r : Nat) (c0 c1 c2 c3 c4 c5 c6 c7 c8 wv : Value) (ws : List (List UInt8)) (w0 w : World) (hx : RdBox r c0 c1 c2 c3 c4 c5 c6 c7 c8 wv w) (hw : WordsIn w wv ws) (hl : ws.length ≤ 1000) (hwl : ∀ x ∈ ws, x.length ≤ 1000000) (hE : LibIn w0) (hr : w0.heap.size ≤ r) (hb : Below w0.heap.size w0 w) :
   Calls Tryz.prog 91 #[.pointer (some ⟨r, 0, none⟩)] w fun e w' => e = .returned (.int .i64 (numS (headW ws))) ∧ Rest r c0 c1 c2 c3 c4 c5 c6 c7 c8 ws.tail w w' := by
 have HN := Lib.hid (next_word r c0 c1 c2 c3 c4 c5 c6 c7 c8 wv ws w hx hw hl)
 have hrw : r ≤ w.heap.size := Nat.le_of_lt (bx_lt hx)
 have hhl : (headW ws).length ≤ 1000000 := by
   cases ws with
   | nil => simp [headW]
   | cons x xs => exact hwl x (by simp)
 go_enter Tryz.func91, Tryz.ntmps91
 go_wp2_with fail
 refine HN.out.mono ?_
 rintro e w2 ⟨rfl, hR⟩
 have HA := Lib.hid (atoi_any ⟨(headW ws).toArray⟩ (by simp [ByteArray.size]; omega) w2 (hE.up (hb.trans ((hR.low hrw).mono hr))))
 have HR := Lib.hid hR
 clear hR
 go_wp2_with fail
 refine HA.out.mono ?_
 rintro e w3 ⟨er, rfl, hb3⟩
 have HR3 := Lib.hid (HR.out.up hb3)
 clear hb3
 go_wp2
 go_ret
 exact ⟨rfl, HR3.out⟩
theorem OwnInts.kept_ {n r : Nat} {W W' : World} {v : Value} {l : List Int} (h : OwnInts n W v l) (hn : r < n) (ha : Alters (fun k => k = r) W W') : OwnInts n W' v l :=
 h.alters ha (fun k hk hv => by have hk : k = r := hk; have := (World.ownsRow.lt h k hv.symm).1; omega)
theorem tail_cells {ws : List (List UInt8)} (h : ∀ x ∈ ws, x.length ≤ 1000000) : ∀ x ∈ ws.tail, x.length ≤ 1000000 := fun x hx => h x (List.mem_of_mem_tail hx)
end Go.Proofs.YtbmcngoeinginaaGreatDoor
namespace Go.Proofs.YtbmcngoeinginaaGreatDoor
open Go Go.RowKit Go.Lib
def lenOf : Value → Nat
 | .slice _ n _ => n
 | _ => 0
theorem own_has_ {W : World} {n : Nat} {e : TypeId} {size k : Nat} {v : Value} {xs : List Value} (h : W.ownsRow n e size v k xs) {b : Nat} (hb : some b = v.ownBlock) : ∃ cs, W.heap[b]? = some (.cells cs e (0, 0)) := by
 rcases h.2 with ⟨h0, _⟩ | ⟨g, cap, cur, hv, _, hc, _⟩
 · subst h0; cases hb
 · subst hv
   cases hb
   exact ⟨cur, hc⟩
theorem Alters.trans' {S T : Nat → Prop} {A B C : World} (h : Alters S A B) (k : Alters T B C) (hT : ∀ b, T b → A.heap.size ≤ b) : Alters S A C :=
 ⟨k.os.trans h.os, k.tape.trans h.tape, k.output.trans h.output, Nat.le_trans h.size k.size, fun b hb hs => (k.block b (Nat.lt_of_lt_of_le hb h.size) (fun ht => by have := hT b ht; omega)).trans (h.block b hb hs)⟩
set_option maxRecDepth 100000 in
set_option maxHeartbeats 2000000 in
theorem numbers_word (r : Nat) (c0 c1 c2 c3 c4 c5 c6 c7 c8 wv : Value) (ws : List (List UInt8)) (w0 w : World) (hx : RdBox r c0 c1 c2 c3 c4 c5 c6 c7 c8 wv w) (hw : WordsIn w wv ws) (hl : ws.length ≤ 1000) (hwl : ∀ x ∈ ws, x.length ≤ 1000000) (hE : LibIn w0) (hr : w0.heap.size ≤ r) (hb : Below w0.heap.size w0 w) :
   Calls Tryz.prog 93 #[.pointer (some ⟨r, 0, none⟩)] w fun e w' => ∃ v, e = .returned v ∧ OwnInts w.heap.size w' v (ws.map numS) ∧ Rest r c0 c1 c2 c3 c4 c5 c6 c7 c8 [] w w' := by
 have hrs := bx_lt hx
 have HR0 := Lib.hid (show Rest r c0 c1 c2 c3 c4 c5 c6 c7 c8 ws w w from ⟨wv, hx, hw, alters_refl _ _⟩)
 clear hx hw
 go_enter Tryz.func93, Tryz.ntmps93
 go_wp2
 go_loopw [3] (fun v wr => ∃ (dn rs : List (List UInt8)), Hid (ws = dn ++ rs) ∧ (∃ a c, v = .slice a dn.length c) ∧ OwnInts w.heap.size wr v (dn.map numS) ∧ Rest r c0 c1 c2 c3 c4 c5 c6 c7 c8 rs w wr) (fun v _ => ws.length - lenOf v)
 case atStart => exact ⟨[], ws, Lib.hid rfl, ⟨none, 0, rfl⟩, ⟨rfl, .inl ⟨rfl, rfl⟩⟩, HR0.out⟩
 case round =>
   clear HR0;obtain ⟨dn, rs, HS, ⟨a, c, rfl⟩, ho, hR⟩ := hrel;have hlen := congrArg List.length HS.out;rw [List.length_append] at hlen;obtain ⟨wv2, hx2, hw2⟩ := hR.parts;have hbr := hb.trans ((hR.low (Nat.le_of_lt hrs)).mono hr);obtain ⟨a2, k2, rfl, hk2, hcs⟩ := hw2;have q9 := bx_cell hx2 9 rfl
   cases rs with
   | nil =>
     have HO := Lib.hid ho;have HR := Lib.hid hR
     have hws : ws = dn := by rw [HS.out, List.append_nil]
     have HWS := Lib.hid hws;clear ho hR hlen hws;go_wp2
     go_ret
     exact ⟨_, rfl, by rw [HWS.out]; exact HO.out, HR.out⟩
   | cons x xs =>
     have t1 : decide ((0 : Int) < (xs.length : Int) + 1) = true := by rw [decide_eq_true_eq]; omega
     have hwl2 : ∀ y ∈ x :: xs, y.length ≤ 1000000 := fun y hy => hwl y (by rw [HS.out]; simp at hy ⊢; rcases hy with h | h <;> simp [h])
     have HN := Lib.hid (number_word r c0 c1 c2 c3 c4 c5 c6 c7 c8 _ (x :: xs) w0 wr hx2 ⟨a2, k2, rfl, hk2, hcs⟩ (by omega) hwl2 hE hr hbr);have HO := Lib.hid ho;have HR := Lib.hid hR;have HLE := Lib.hid hlen;have hws2 := (hR.low (Nat.le_of_lt hrs)).size;have HW2 := Lib.hid hws2;clear ho hR hlen hbr hcs hk2 hx2 hws2
     go_wp2_with fail
     refine HN.out.mono ?_;rintro e w3 ⟨rfl, hR3⟩;have hR3b := hR3;obtain ⟨_, _, _, ha3⟩ := hR3b;have ho3 := HO.out.kept_ hrs ha3;have hR3' := HR.out.then hR3;have hs3 : w.heap.size ≤ w3.heap.size := Nat.le_trans HW2.out ha3.size;have hA : Below w3.heap.size w3 (w3.alloc (.cells #[.int .i64 (numS (headW (x :: xs)))] 3)) := below_alloc (Below.refl _ _) _;have HNA := Lib.hid (ho3.alters (S := fun _ => False) (Alters.of_below hA) (fun _ h => h.elim));have HRA := Lib.hid (hR3'.up hA);clear ho3 hR3' ha3 q9 hA;have hnx : Hid (dn.map numS ++ [numS x] = (dn ++ [x]).map numS) := Lib.hid (by simp);rw [show headW (x :: xs) = x from rfl] at *;generalize numS x = nx at *
     go_wp2_with (at_builtin; go_loud (refine wpList_push rfl (.tmp 10) (.tmp 13) rfl w.heap.size _ (dn.map numS) rfl HNA.out (by have := HLE.out; simp at this ⊢; omega) (by simp; omega) ⟨w3.heap.size, 0, none⟩ nx rfl (cell_new_at _ _ _ _ _ _ rfl rfl) ?_; intro g8 cap8 w8 hown8 hg8 hat8))
     have hr8 : Rest r c0 c1 c2 c3 c4 c5 c6 c7 c8 xs w w8 := by
       obtain ⟨wv8, hx8, hw8, ha8⟩ := HRA.out
       have hne : some r ≠ (Value.slice a dn.length c).ownBlock := fun e => by have := (World.ownsRow.lt HNA.out r e.symm).1; omega
       have hown : ∀ k, some k = (Value.slice a dn.length c).ownBlock → w.heap.size ≤ k := fun k e => (World.ownsRow.lt HNA.out k e.symm).1
       refine ⟨_, (hg8.block r (bx_lt hx8) hne).trans hx8, hw8.alters (Alters.of_grown hg8) (fun k hk cs hc => ?_), ha8.trans' (Alters.of_grown hg8) hown⟩;obtain ⟨c9, hc9⟩ := own_has_ HNA.out hk;rw [hc9] at hc
       cases hc
     clear hat8;have H8 := Lib.hid (And.intro hown8 hr8);clear hown8 hr8 hg8;go_wp2
     go_roundw
     case rel => exact ⟨dn ++ [x], xs, Lib.hid (by rw [HS.out]; simp), ⟨some ⟨g8, 0, none⟩, cap8, by simp⟩, by rw [← hnx.out]; have := H8.out.1; rw [List.length_map] at this; simpa using this, H8.out.2⟩
     case measure => have := HLE.out; simp [lenOf] at this ⊢; omega
end Go.Proofs.YtbmcngoeinginaaGreatDoor
namespace Go.Proofs.YtbmcngoeinginaaGreatDoor
open Go Go.RowKit Go.Lib
def resN (x : List UInt8) : Int := if resW 0 = x then 0 else if resW 1 = x then 1 else if resW 2 = x then 2 else if resW 3 = x then 3 else 0
theorem idx4 (k : Nat) (hk : k < 4) (b0 b1 b2 b3 : ByteArray) (W : World) : (Instr.index 41 (.agg #[.string b0, .string b1, .string b2, .string b3]) (.int .i64 (k : Int))).run Tryz.prog W = .ok (#[Value.string b0, .string b1, .string b2, .string b3][k]?.getD undef) W := by
 rcases (show k = 0 ∨ k = 1 ∨ k = 2 ∨ k = 3 by omega) with rfl | rfl | rfl | rfl <;> simp [Instr.index, run_underlying Tryz.underlying41, asIntOf, part, go_sem]
set_option maxRecDepth 100000 in
set_option maxHeartbeats 2000000 in
theorem result_word (r : Nat) (c0 c1 c2 c3 c4 c5 c6 c7 c8 wv : Value) (ws : List (List UInt8)) (w0 w : World) (hx : RdBox r c0 c1 c2 c3 c4 c5 c6 c7 c8 wv w) (hw : WordsIn w wv ws) (hl : ws.length ≤ 1000) (hR : ResIn w0) (hr : w0.heap.size ≤ r) (hb : Below w0.heap.size w0 w) :
   Calls Tryz.prog 103 #[.pointer (some ⟨r, 0, none⟩)] w fun e w' => e = .returned (.int .i64 (resN (headW ws))) ∧ Rest r c0 c1 c2 c3 c4 c5 c6 c7 c8 ws.tail w w' := by
 have HN := Lib.hid (next_word r c0 c1 c2 c3 c4 c5 c6 c7 c8 wv ws w hx hw hl)
 have hrw : r ≤ w.heap.size := Nat.le_of_lt (bx_lt hx)
 have HRR := Lib.hid (fun W (k : Below r w W) => hR.up (hb.trans (k.mono hr)))
 generalize headW ws = x at *
 obtain ⟨RN, hRN⟩ : ∃ RN, resN x = RN := ⟨_, rfl⟩
 have HRD := Lib.hid (show RN = if resW 0 = x then 0 else if resW 1 = x then 1 else if resW 2 = x then 2 else if resW 3 = x then 3 else 0 from by rw [← hRN]; rfl)
 rw [hRN]
 clear hRN
 go_enter Tryz.func103, Tryz.ntmps103
 go_wp2_with fail
 refine HN.out.mono ?_
 rintro e w2 ⟨rfl, hrest⟩
 have hres := HRR.out w2 (hrest.low hrw)
 have s0 := hres 0 (by omega)
 have s1 := hres 1 (by omega)
 have s2 := hres 2 (by omega)
 have s3 := hres 3 (by omega)
 have HRS := Lib.hid hrest
 clear hrest hres
 generalize resW 0 = k0 at *
 generalize resW 1 = k1 at *
 generalize resW 2 = k2 at *
 generalize resW 3 = k3 at *
 have i0 : (Instr.index 41 (.agg #[.string ⟨k0.toArray⟩, .string ⟨k1.toArray⟩, .string ⟨k2.toArray⟩, .string ⟨k3.toArray⟩]) (.int .i64 0)).run Tryz.prog w2 = .ok (.string ⟨k0.toArray⟩) w2 := idx4 0 (by omega) ⟨k0.toArray⟩ ⟨k1.toArray⟩ ⟨k2.toArray⟩ ⟨k3.toArray⟩ w2
 have i1 : (Instr.index 41 (.agg #[.string ⟨k0.toArray⟩, .string ⟨k1.toArray⟩, .string ⟨k2.toArray⟩, .string ⟨k3.toArray⟩]) (.int .i64 1)).run Tryz.prog w2 = .ok (.string ⟨k1.toArray⟩) w2 := idx4 1 (by omega) ⟨k0.toArray⟩ ⟨k1.toArray⟩ ⟨k2.toArray⟩ ⟨k3.toArray⟩ w2
 have i2 : (Instr.index 41 (.agg #[.string ⟨k0.toArray⟩, .string ⟨k1.toArray⟩, .string ⟨k2.toArray⟩, .string ⟨k3.toArray⟩]) (.int .i64 2)).run Tryz.prog w2 = .ok (.string ⟨k2.toArray⟩) w2 := idx4 2 (by omega) ⟨k0.toArray⟩ ⟨k1.toArray⟩ ⟨k2.toArray⟩ ⟨k3.toArray⟩ w2
 have i3 : (Instr.index 41 (.agg #[.string ⟨k0.toArray⟩, .string ⟨k1.toArray⟩, .string ⟨k2.toArray⟩, .string ⟨k3.toArray⟩]) (.int .i64 3)).run Tryz.prog w2 = .ok (.string ⟨k3.toArray⟩) w2 := idx4 3 (by omega) ⟨k0.toArray⟩ ⟨k1.toArray⟩ ⟨k2.toArray⟩ ⟨k3.toArray⟩ w2
 go_wp2_with fail
 refine wp_loop_rounds 5 ?_
 by_cases h0 : k0 = x
 · have e0 : (k0 == x) = true := by rw [beq_iff_eq]; exact h0
   have H0 : Hid (k0 = x) := Lib.hid h0;clear h0
   rw [rounds_succ]; go_wp2
   go_ret
   exact ⟨by rw [HRD.out, if_pos H0.out]; rfl, HRS.out⟩
 · have e0 : (k0 == x) = false := by rw [beq_eq_false_iff_ne]; exact h0
   have H0 : Hid (¬ k0 = x) := Lib.hid h0;clear h0
   by_cases h1 : k1 = x
   · have e1 : (k1 == x) = true := by rw [beq_iff_eq]; exact h1
     have H1 : Hid (k1 = x) := Lib.hid h1;clear h1
     rw [rounds_succ]; go_wp2
     rw [rounds_succ]; go_wp2
     go_ret
     exact ⟨by rw [HRD.out, if_neg H0.out, if_pos H1.out]; rfl, HRS.out⟩
   · have e1 : (k1 == x) = false := by rw [beq_eq_false_iff_ne]; exact h1
     have H1 : Hid (¬ k1 = x) := Lib.hid h1;clear h1
     by_cases h2 : k2 = x
     · have e2 : (k2 == x) = true := by rw [beq_iff_eq]; exact h2
       have H2 : Hid (k2 = x) := Lib.hid h2;clear h2
       rw [rounds_succ]; go_wp2
       rw [rounds_succ]; go_wp2
       rw [rounds_succ]; go_wp2
       go_ret
       exact ⟨by rw [HRD.out, if_neg H0.out, if_neg H1.out, if_pos H2.out]; rfl, HRS.out⟩
     · have e2 : (k2 == x) = false := by rw [beq_eq_false_iff_ne]; exact h2
       have H2 : Hid (¬ k2 = x) := Lib.hid h2;clear h2
       by_cases h3 : k3 = x
       · have e3 : (k3 == x) = true := by rw [beq_iff_eq]; exact h3
         have H3 : Hid (k3 = x) := Lib.hid h3;clear h3
         rw [rounds_succ]; go_wp2
         rw [rounds_succ]; go_wp2
         rw [rounds_succ]; go_wp2
         rw [rounds_succ]; go_wp2
         go_ret
         exact ⟨by rw [HRD.out, if_neg H0.out, if_neg H1.out, if_neg H2.out, if_pos H3.out]; rfl, HRS.out⟩
       · have e3 : (k3 == x) = false := by rw [beq_eq_false_iff_ne]; exact h3
         have H3 : Hid (¬ k3 = x) := Lib.hid h3;clear h3
         rw [rounds_succ]; go_wp2
         rw [rounds_succ]; go_wp2
         rw [rounds_succ]; go_wp2
         rw [rounds_succ]; go_wp2
         rw [rounds_succ]; go_wp2
         go_ret
         exact ⟨by rw [HRD.out, if_neg H0.out, if_neg H1.out, if_neg H2.out, if_neg H3.out]; rfl, HRS.out⟩
end Go.Proofs.YtbmcngoeinginaaGreatDoor
namespace Go.Proofs.YtbmcngoeinginaaGreatDoor
open Go Go.RowKit Go.Lib
theorem info_gameC : (Tryz.prog.info? 38).map (·.size) = some 9 := by kernel_rfl
set_option maxRecDepth 100000 in
theorem gfind_gen (v0 v1 v2 v4 v5 v6 v7 v8 : Value) (ks : List KindD) (ak : Option Addr) (ck : Nat) (t : List UInt8) (N : Nat) (w : World) (hl : ks.length ≤ maxLen) (hN : N ≤ w.heap.size) (hK : KindsIn N w ak ks) :
   Calls Tryz.prog 16 #[.agg #[v0, v1, v2, .slice ak ks.length ck, v4, v5, v6, v7, v8], .string ⟨t.toArray⟩] w fun e w' => e = .returned (.int .i64 (findD ks t)) ∧ Below w.heap.size w w' := by
 have HI := Lib.hid (fun nb W h1 h2 hc => idxKind_any ks t ak ck N nb W hl h1 h2 hc)
 go_enter Tryz.func16, Tryz.ntmps16
 go_upto_region 1 with (fail)
 have hb : Below w.heap.size w ((w.alloc (.cells #[v0, v1, v2, .slice ak ks.length ck, v4, v5, v6, v7, v8] 38)).alloc (.cells #[.string ⟨t.toArray⟩] 9)) := below_alloc (below_alloc (Below.refl _ _) _) _
 have hc : ((w.alloc (.cells #[v0, v1, v2, .slice ak ks.length ck, v4, v5, v6, v7, v8] 38)).alloc (.cells #[.string ⟨t.toArray⟩] 9)).cell? ⟨w.heap.size + 1, 0, none⟩ = some (.string ⟨t.toArray⟩) := cell_new_at _ _ _ _ _ _ (by simp) rfl
 have H1 := Lib.hid (HI.out (w.heap.size + 1) _ (Nat.le_trans hN hb.size) (hK.up hN hb) hc)
 have HB := Lib.hid hb
 clear hb hc HI
 go_wp2_with fail
 refine H1.out.mono ?_
 rintro e w2 ⟨rfl, hb2⟩
 have HB2 := Lib.hid (below_step HB.out hb2)
 clear hb2
 go_wp2
 go_ret
 exact ⟨rfl, HB2.out⟩
set_option maxRecDepth 100000 in
set_option maxHeartbeats 2000000 in
theorem kind_word (r : Nat) (c0 c1 c2 c4 c5 c6 c7 c8 wv : Value) (ks : List KindD) (ak : Option Addr) (ck : Nat) (ws : List (List UInt8)) (w : World) (hx : RdBox r c0 c1 c2 (.slice ak ks.length ck) c4 c5 c6 c7 c8 wv w) (hw : WordsIn w wv ws) (hl : ws.length ≤ 1000) (hkl : ks.length ≤ maxLen)
   (hK : ∀ W, Alters (fun k => k = r) w W → KindsIn W.heap.size W ak ks) :
   Calls Tryz.prog 102 #[.pointer (some ⟨r, 0, none⟩)] w fun e w' => e = .returned (.int .i64 (findD ks (headW ws))) ∧ Rest r c0 c1 c2 (.slice ak ks.length ck) c4 c5 c6 c7 c8 ws.tail w w' := by
 have hd : Below w.heap.size w w.drew := (Below.refl _ w).drew
 have hx1 : RdBox r c0 c1 c2 (.slice ak ks.length ck) c4 c5 c6 c7 c8 wv w.drew := hx
 have hw1 := hw.up hd
 have HN := Lib.hid (next_word r c0 c1 c2 (.slice ak ks.length ck) c4 c5 c6 c7 c8 wv ws w.drew hx1 hw1 hl)
 have HK := Lib.hid (fun W (ha : Alters (fun k => k = r) w.drew W) => hK W ((Alters.of_below hd).trans ha))
 have HS := Lib.hid (fun (wv2 : Value) W (hx2 : RdBox r c0 c1 c2 (.slice ak ks.length ck) c4 c5 c6 c7 c8 wv2 W) => (fun j (v : Value) hj => (by
   have hj' : j < 9 := (List.getElem?_eq_some_iff.1 hj).1;refine bx_cell hx2 (0 + j) ?_;rw [Nat.zero_add]
   rcases (show j = 0 ∨ j = 1 ∨ j = 2 ∨ j = 3 ∨ j = 4 ∨ j = 5 ∨ j = 6 ∨ j = 7 ∨ j = 8 by omega) with rfl | rfl | rfl | rfl | rfl | rfl | rfl | rfl | rfl <;> exact hj) : W.rangeAt r 0 [c0, c1, c2, .slice ak ks.length ck, c4, c5, c6, c7, c8]))
 have HFIN := Lib.hid (fun (ws2 : List (List UInt8)) W (p : Rest r c0 c1 c2 (.slice ak ks.length ck) c4 c5 c6 c7 c8 ws2 w.drew W) => (show Rest r c0 c1 c2 (.slice ak ks.length ck) c4 c5 c6 c7 c8 ws2 w W from by
   obtain ⟨wv3, h1, h2, h3⟩ := p;exact ⟨wv3, h1, h2, (Alters.of_below hd).trans h3⟩))
 clear hx hw hw1 hd hK
 go_enter Tryz.func102, Tryz.ntmps102
 go_upto_region 1 with (fail)
 refine wp_region_held_drew (S := fun W => W.rangeAt r 0 [c0, c1, c2, .slice ak ks.length ck, c4, c5, c6, c7, c8]) (by kernel_rfl) (HS.out _ _ hx1) (fun hHeld => ?_)
 generalize w.drew = wD at *
 refine TK 0 ?_
 (try simp only [pS])
 refine TK 1 ?_
 (try simp only [pS])
 refine TK 2 ?_
 (try simp only [pS])
 refine TX 3 (v := .agg #[c0, c1, c2, .slice ak ks.length ck, c4, c5, c6, c7, c8]) (yieldsIf_load_mid rfl 38 (.tmp 5) rfl r 0 rfl [c0, c1, c2, .slice ak ks.length ck, c4, c5, c6, c7, c8] _ (fun W hW => hW) Tryz.underlying38 rfl info_gameC) ?_
 (try simp only [pS])
 refine TK 4 ?_
 (try simp only [pS])
 refine wpAnyH_ready (rs := [5]) (by kernel_rfl) (by simp) ?_
 refine AC (fun K hK => ?_) AllReadyH.nil
 refine step_call_h rfl 65 _ _ #[.pointer (some ⟨r, 0, none⟩)] rfl rfl (enters_of Tryz.func65 (by kernel_rfl) rfl) (HN.out.mono ?_)
 rintro e w2 ⟨rfl, hR⟩
 obtain ⟨wv2, hx2, hw2⟩ := hR.parts
 refine ⟨_, rfl, hK.out _ _ (HS.out _ _ hx2) (fun _ => ?_)⟩
 clear hK K
 (try simp only [pS])
 have hKI : KindsIn w2.heap.size w2 ak ks := by
   obtain ⟨_, _, _, ha⟩ := hR;exact HK.out _ ha
 refine wpAnyH_ready (rs := [6]) (by kernel_rfl) (by simp) ?_
 refine AC (fun K hK => ?_) AllReadyH.nil
 refine step_call_h rfl 16 _ _ #[.agg #[c0, c1, c2, .slice ak ks.length ck, c4, c5, c6, c7, c8], .string ⟨(headW ws).toArray⟩] rfl rfl (enters_of Tryz.func16 (by kernel_rfl) rfl) ((gfind_gen c0 c1 c2 c4 c5 c6 c7 c8 ks ak ck (headW ws) w2.heap.size w2 hkl (Nat.le_refl _) hKI).mono ?_)
 rintro e w3 ⟨rfl, hb3⟩
 have hR3 := hR.up hb3
 obtain ⟨wv3, hx3, hw3⟩ := hR3.parts
 refine ⟨_, rfl, hK.out _ _ (HS.out _ _ hx3) (fun hSS => ?_)⟩
 clear hK K
 (try simp only [pS])
 refine TK 7 ?_
 (try simp only [pS])
 refine wpAnyH_done (by kernel_rfl) ?_ _
 have HR3 := Lib.hid (HFIN.out _ _ hR3)
 clear hR hR3 hx2 hw2 hx3 hw3 hSS hb3 hKI
 go_wp2
 go_ret
 exact ⟨rfl, HR3.out⟩
end Go.Proofs.YtbmcngoeinginaaGreatDoor
namespace Go.Proofs.YtbmcngoeinginaaGreatDoor
open Go Go.RowKit Go.Lib
theorem rest_set {r : Nat} {c0 c1 c2 c3 c4 c5 c6 c7 c8 : Value} {ws : List (List UInt8)} {w w1 : World} (h : Rest r c0 c1 c2 c3 c4 c5 c6 c7 c8 ws w w1) (j : Nat) (v : Value) (hj : j < 9) :
   Rest r ([c0, c1, c2, c3, c4, c5, c6, c7, c8].set j v)[0]! ([c0, c1, c2, c3, c4, c5, c6, c7, c8].set j v)[1]! ([c0, c1, c2, c3, c4, c5, c6, c7, c8].set j v)[2]! ([c0, c1, c2, c3, c4, c5, c6, c7, c8].set j v)[3]! ([c0, c1, c2, c3, c4, c5, c6, c7, c8].set j v)[4]! ([c0, c1, c2, c3, c4, c5, c6, c7, c8].set j v)[5]! ([c0, c1, c2, c3, c4, c5, c6, c7, c8].set j v)[6]! ([c0, c1, c2, c3, c4, c5, c6, c7, c8].set j v)[7]! ([c0, c1, c2, c3, c4, c5, c6, c7, c8].set j v)[8]! ws w (w1.setCell ⟨r, j, none⟩ v) := by
 obtain ⟨wv, hx, hw, ha⟩ := h
 have hal := alters_cell w1 r j v
 refine ⟨wv, ?_, hw.alters hal (rd_not hx), ha.trans hal⟩
 unfold RdBox at hx ⊢
 rw [bx_set_ hx j]
 rcases (show j = 0 ∨ j = 1 ∨ j = 2 ∨ j = 3 ∨ j = 4 ∨ j = 5 ∨ j = 6 ∨ j = 7 ∨ j = 8 by omega) with rfl | rfl | rfl | rfl | rfl | rfl | rfl | rfl | rfl <;> rfl
set_option maxRecDepth 100000 in
theorem line1_any (r rr : Nat) (c0 c1 c2 c3 c4 c5 c6 c7 c8 wv : Value) (ws : List (List UInt8)) (w0 w : World) (hrr : w.cell? ⟨rr, 0, none⟩ = some (.pointer (some ⟨r, 0, none⟩))) (hne : rr ≠ r) (hx : RdBox r c0 c1 c2 c3 c4 c5 c6 c7 c8 wv w) (hw : WordsIn w wv ws) (hl : ws.length ≤ 1000) (hwl : ∀ x ∈ ws, x.length ≤ 1000000) (hE : LibIn w0) (hr : w0.heap.size ≤ r) (hb : Below w0.heap.size w0 w) :
   Calls Tryz.prog 90 #[.pointer (some ⟨rr, 0, none⟩)] w fun e w' => (∃ v, e = .returned v) ∧ Rest r (.int .i64 (numS (headW ws))) c1 c2 c3 c4 c5 c6 c7 c8 ws.tail w w' := by
 have hd : Below w.heap.size w w.drew := (Below.refl _ w).drew
 have hx1 : RdBox r c0 c1 c2 c3 c4 c5 c6 c7 c8 wv w.drew := hx
 have hw1 := hw.up hd
 have hb1 := below_step hb hd
 have HN := Lib.hid (number_word r c0 c1 c2 c3 c4 c5 c6 c7 c8 wv ws w0 w.drew hx1 hw1 hl hwl hE hr hb1)
 have HFIN := Lib.hid (fun W (p : Rest r (.int .i64 (numS (headW ws))) c1 c2 c3 c4 c5 c6 c7 c8 ws.tail w.drew W) => (show Rest r (.int .i64 (numS (headW ws))) c1 c2 c3 c4 c5 c6 c7 c8 ws.tail w W from by
   obtain ⟨wv3, h1, h2, h3⟩ := p;exact ⟨wv3, h1, h2, (Alters.of_below hd).trans h3⟩))
 have hrd : w.drew.cell? ⟨rr, 0, none⟩ = some (.pointer (some ⟨r, 0, none⟩)) := hrr
 have hrl := World.block_lt_of_cell? _ _ hrd
 clear hx hw hx1 hw1 hrr
 go_enter Tryz.func90, Tryz.ntmps90
 refine wp_region_held_drew (S := fun W => W.cell? ⟨rr, 0, none⟩ = some (.pointer (some ⟨r, 0, none⟩))) (by kernel_rfl) hrd (fun hHeld => ?_)
 generalize w.drew = wD at *
 refine TK 0 ?_
 (try simp only [pS])
 refine TK 1 ?_
 (try simp only [pS])
 refine wpAnyH_ready (rs := [2]) (by kernel_rfl) (by simp) ?_
 refine AC (fun K hK => ?_) AllReadyH.nil
 refine step_call_h rfl 91 _ _ #[.pointer (some ⟨r, 0, none⟩)] rfl rfl (enters_of Tryz.func91 (by kernel_rfl) rfl) (HN.out.mono ?_)
 rintro e w2 ⟨rfl, hR⟩
 have hrr2 : w2.cell? ⟨rr, 0, none⟩ = some (.pointer (some ⟨r, 0, none⟩)) := by
   obtain ⟨_, _, _, ha⟩ := hR;exact (World.cell?_of_block (a := ⟨rr, 0, none⟩) (ha.block rr hrl hne)).trans hrd
 refine ⟨_, rfl, hK.out _ _ hrr2 (fun _ => ?_)⟩
 clear hK K
 (try simp only [pS])
 have hT := hrr2
 refine TK 3 ?_
 (try simp only [pS])
 refine TK 4 ?_
 (try simp only [pS])
 refine TK 5 ?_
 (try simp only [pS])
 refine TK 6 ?_
 (try simp only [pS])
 clear hT
 obtain ⟨wv2, hx2, hw2⟩ := hR.parts
 have q0 := bx_cell hx2 0 rfl
 have f0 := bx_frozen hx2 0
 refine wpAnyH_ready (rs := [7]) (by kernel_rfl) (by simp) ?_
 refine AC (fun K hK => ?_) AllReadyH.nil
 go_simp
 refine hK.out _ _ ((World.cell?_setCell_far _ _ _ _ (by simp; omega)).trans hrr2) (fun _ => ?_)
 clear hK K
 refine wpAnyH_done (by kernel_rfl) ?_ _
 have HR3 := Lib.hid (HFIN.out _ (rest_set hR 0 (.int .i64 (numS (headW ws))) (by omega)))
 clear hR hx2 hw2 q0 f0
 go_wp2
 go_end0
 exact ⟨⟨_, rfl⟩, HR3.out⟩
set_option maxRecDepth 100000 in
theorem line6_any (r rr : Nat) (c0 c1 c2 c3 c4 c5 c6 c7 c8 wv : Value) (ws : List (List UInt8)) (w0 w : World) (hrr : w.cell? ⟨rr, 0, none⟩ = some (.pointer (some ⟨r, 0, none⟩))) (hne : rr ≠ r) (hx : RdBox r c0 c1 c2 c3 c4 c5 c6 c7 c8 wv w) (hw : WordsIn w wv ws) (hl : ws.length ≤ 1000) (hwl : ∀ x ∈ ws, x.length ≤ 1000000) (hE : LibIn w0) (hr : w0.heap.size ≤ r) (hb : Below w0.heap.size w0 w) :
   Calls Tryz.prog 98 #[.pointer (some ⟨rr, 0, none⟩)] w fun e w' => (∃ v, e = .returned v) ∧ Rest r c0 c1 c2 c3 (.int .i64 (numS (headW ws))) c5 c6 c7 c8 ws.tail w w' := by
 have hd : Below w.heap.size w w.drew := (Below.refl _ w).drew
 have hx1 : RdBox r c0 c1 c2 c3 c4 c5 c6 c7 c8 wv w.drew := hx
 have hw1 := hw.up hd
 have hb1 := below_step hb hd
 have HN := Lib.hid (number_word r c0 c1 c2 c3 c4 c5 c6 c7 c8 wv ws w0 w.drew hx1 hw1 hl hwl hE hr hb1)
 have HFIN := Lib.hid (fun W (p : Rest r c0 c1 c2 c3 (.int .i64 (numS (headW ws))) c5 c6 c7 c8 ws.tail w.drew W) => (show Rest r c0 c1 c2 c3 (.int .i64 (numS (headW ws))) c5 c6 c7 c8 ws.tail w W from by
   obtain ⟨wv3, h1, h2, h3⟩ := p;exact ⟨wv3, h1, h2, (Alters.of_below hd).trans h3⟩))
 have hrd : w.drew.cell? ⟨rr, 0, none⟩ = some (.pointer (some ⟨r, 0, none⟩)) := hrr
 have hrl := World.block_lt_of_cell? _ _ hrd
 clear hx hw hx1 hw1 hrr
 go_enter Tryz.func98, Tryz.ntmps98
 refine wp_region_held_drew (S := fun W => W.cell? ⟨rr, 0, none⟩ = some (.pointer (some ⟨r, 0, none⟩))) (by kernel_rfl) hrd (fun hHeld => ?_)
 generalize w.drew = wD at *
 refine TK 0 ?_
 (try simp only [pS])
 refine TK 1 ?_
 (try simp only [pS])
 refine wpAnyH_ready (rs := [2]) (by kernel_rfl) (by simp) ?_
 refine AC (fun K hK => ?_) AllReadyH.nil
 refine step_call_h rfl 91 _ _ #[.pointer (some ⟨r, 0, none⟩)] rfl rfl (enters_of Tryz.func91 (by kernel_rfl) rfl) (HN.out.mono ?_)
 rintro e w2 ⟨rfl, hR⟩
 have hrr2 : w2.cell? ⟨rr, 0, none⟩ = some (.pointer (some ⟨r, 0, none⟩)) := by
   obtain ⟨_, _, _, ha⟩ := hR;exact (World.cell?_of_block (a := ⟨rr, 0, none⟩) (ha.block rr hrl hne)).trans hrd
 refine ⟨_, rfl, hK.out _ _ hrr2 (fun _ => ?_)⟩
 clear hK K
 (try simp only [pS])
 have hT := hrr2
 refine TK 3 ?_
 (try simp only [pS])
 refine TK 4 ?_
 (try simp only [pS])
 refine TK 5 ?_
 (try simp only [pS])
 clear hT
 obtain ⟨wv2, hx2, hw2⟩ := hR.parts
 have q4 := bx_cell hx2 4 rfl
 have f4 := bx_frozen hx2 4
 refine wpAnyH_ready (rs := [6]) (by kernel_rfl) (by simp) ?_
 refine AC (fun K hK => ?_) AllReadyH.nil
 go_simp
 refine hK.out _ _ ((World.cell?_setCell_far _ _ _ _ (by simp; omega)).trans hrr2) (fun _ => ?_)
 clear hK K
 refine wpAnyH_done (by kernel_rfl) ?_ _
 have HR3 := Lib.hid (HFIN.out _ (rest_set hR 4 (.int .i64 (numS (headW ws))) (by omega)))
 clear hR hx2 hw2 q4 f4
 go_wp2
 go_end0
 exact ⟨⟨_, rfl⟩, HR3.out⟩
set_option maxRecDepth 100000 in
theorem line11_any (r rr : Nat) (c0 c1 c2 c3 c4 c5 c6 c7 c8 wv : Value) (ws : List (List UInt8)) (w0 w : World) (hrr : w.cell? ⟨rr, 0, none⟩ = some (.pointer (some ⟨r, 0, none⟩))) (hne : rr ≠ r) (hx : RdBox r c0 c1 c2 c3 c4 c5 c6 c7 c8 wv w) (hw : WordsIn w wv ws) (hl : ws.length ≤ 1000) (hE : ResIn w0) (hr : w0.heap.size ≤ r) (hb : Below w0.heap.size w0 w) :
   Calls Tryz.prog 106 #[.pointer (some ⟨rr, 0, none⟩)] w fun e w' => (∃ v, e = .returned v) ∧ Rest r c0 c1 c2 c3 c4 c5 c6 (.int .i64 (resN (headW ws))) c8 ws.tail w w' := by
 have hd : Below w.heap.size w w.drew := (Below.refl _ w).drew
 have hx1 : RdBox r c0 c1 c2 c3 c4 c5 c6 c7 c8 wv w.drew := hx
 have hw1 := hw.up hd
 have hb1 := below_step hb hd
 have HN := Lib.hid (result_word r c0 c1 c2 c3 c4 c5 c6 c7 c8 wv ws w0 w.drew hx1 hw1 hl hE hr hb1)
 have HFIN := Lib.hid (fun W (p : Rest r c0 c1 c2 c3 c4 c5 c6 (.int .i64 (resN (headW ws))) c8 ws.tail w.drew W) => (show Rest r c0 c1 c2 c3 c4 c5 c6 (.int .i64 (resN (headW ws))) c8 ws.tail w W from by
   obtain ⟨wv3, h1, h2, h3⟩ := p;exact ⟨wv3, h1, h2, (Alters.of_below hd).trans h3⟩))
 have hrd : w.drew.cell? ⟨rr, 0, none⟩ = some (.pointer (some ⟨r, 0, none⟩)) := hrr
 have hrl := World.block_lt_of_cell? _ _ hrd
 clear hx hw hx1 hw1 hrr
 go_enter Tryz.func106, Tryz.ntmps106
 refine wp_region_held_drew (S := fun W => W.cell? ⟨rr, 0, none⟩ = some (.pointer (some ⟨r, 0, none⟩))) (by kernel_rfl) hrd (fun hHeld => ?_)
 generalize w.drew = wD at *
 refine TK 0 ?_
 (try simp only [pS])
 refine TK 1 ?_
 (try simp only [pS])
 refine wpAnyH_ready (rs := [2]) (by kernel_rfl) (by simp) ?_
 refine AC (fun K hK => ?_) AllReadyH.nil
 refine step_call_h rfl 103 _ _ #[.pointer (some ⟨r, 0, none⟩)] rfl rfl (enters_of Tryz.func103 (by kernel_rfl) rfl) (HN.out.mono ?_)
 rintro e w2 ⟨rfl, hR⟩
 have hrr2 : w2.cell? ⟨rr, 0, none⟩ = some (.pointer (some ⟨r, 0, none⟩)) := by
   obtain ⟨_, _, _, ha⟩ := hR;exact (World.cell?_of_block (a := ⟨rr, 0, none⟩) (ha.block rr hrl hne)).trans hrd
 refine ⟨_, rfl, hK.out _ _ hrr2 (fun _ => ?_)⟩
 clear hK K
 (try simp only [pS])
 have hT := hrr2
 refine TK 3 ?_
 (try simp only [pS])
 refine TK 4 ?_
 (try simp only [pS])
 refine TK 5 ?_
 (try simp only [pS])
 clear hT
 obtain ⟨wv2, hx2, hw2⟩ := hR.parts
 have q7 := bx_cell hx2 7 rfl
 have f7 := bx_frozen hx2 7
 refine wpAnyH_ready (rs := [6]) (by kernel_rfl) (by simp) ?_
 refine AC (fun K hK => ?_) AllReadyH.nil
 go_simp
 refine hK.out _ _ ((World.cell?_setCell_far _ _ _ _ (by simp; omega)).trans hrr2) (fun _ => ?_)
 clear hK K
 refine wpAnyH_done (by kernel_rfl) ?_ _
 have HR3 := Lib.hid (HFIN.out _ (rest_set hR 7 (.int .i64 (resN (headW ws))) (by omega)))
 clear hR hx2 hw2 q7 f7
 go_wp2
 go_end0
 exact ⟨⟨_, rfl⟩, HR3.out⟩
set_option maxRecDepth 100000 in
theorem line12_any (r rr : Nat) (c0 c1 c2 c3 c4 c5 c6 c7 c8 wv : Value) (ws : List (List UInt8)) (w0 w : World) (hrr : w.cell? ⟨rr, 0, none⟩ = some (.pointer (some ⟨r, 0, none⟩))) (hne : rr ≠ r) (hx : RdBox r c0 c1 c2 c3 c4 c5 c6 c7 c8 wv w) (hw : WordsIn w wv ws) (hl : ws.length ≤ 1000) (hE : ResIn w0) (hr : w0.heap.size ≤ r) (hb : Below w0.heap.size w0 w) :
   Calls Tryz.prog 107 #[.pointer (some ⟨rr, 0, none⟩)] w fun e w' => (∃ v, e = .returned v) ∧ Rest r c0 c1 c2 c3 c4 c5 c6 c7 (.int .i64 (resN (headW ws))) ws.tail w w' := by
 have hd : Below w.heap.size w w.drew := (Below.refl _ w).drew
 have hx1 : RdBox r c0 c1 c2 c3 c4 c5 c6 c7 c8 wv w.drew := hx
 have hw1 := hw.up hd
 have hb1 := below_step hb hd
 have HN := Lib.hid (result_word r c0 c1 c2 c3 c4 c5 c6 c7 c8 wv ws w0 w.drew hx1 hw1 hl hE hr hb1)
 have HFIN := Lib.hid (fun W (p : Rest r c0 c1 c2 c3 c4 c5 c6 c7 (.int .i64 (resN (headW ws))) ws.tail w.drew W) => (show Rest r c0 c1 c2 c3 c4 c5 c6 c7 (.int .i64 (resN (headW ws))) ws.tail w W from by
   obtain ⟨wv3, h1, h2, h3⟩ := p;exact ⟨wv3, h1, h2, (Alters.of_below hd).trans h3⟩))
 have hrd : w.drew.cell? ⟨rr, 0, none⟩ = some (.pointer (some ⟨r, 0, none⟩)) := hrr
 have hrl := World.block_lt_of_cell? _ _ hrd
 clear hx hw hx1 hw1 hrr
 go_enter Tryz.func107, Tryz.ntmps107
 refine wp_region_held_drew (S := fun W => W.cell? ⟨rr, 0, none⟩ = some (.pointer (some ⟨r, 0, none⟩))) (by kernel_rfl) hrd (fun hHeld => ?_)
 generalize w.drew = wD at *
 refine TK 0 ?_
 (try simp only [pS])
 refine TK 1 ?_
 (try simp only [pS])
 refine wpAnyH_ready (rs := [2]) (by kernel_rfl) (by simp) ?_
 refine AC (fun K hK => ?_) AllReadyH.nil
 refine step_call_h rfl 103 _ _ #[.pointer (some ⟨r, 0, none⟩)] rfl rfl (enters_of Tryz.func103 (by kernel_rfl) rfl) (HN.out.mono ?_)
 rintro e w2 ⟨rfl, hR⟩
 have hrr2 : w2.cell? ⟨rr, 0, none⟩ = some (.pointer (some ⟨r, 0, none⟩)) := by
   obtain ⟨_, _, _, ha⟩ := hR;exact (World.cell?_of_block (a := ⟨rr, 0, none⟩) (ha.block rr hrl hne)).trans hrd
 refine ⟨_, rfl, hK.out _ _ hrr2 (fun _ => ?_)⟩
 clear hK K
 (try simp only [pS])
 have hT := hrr2
 refine TK 3 ?_
 (try simp only [pS])
 refine TK 4 ?_
 (try simp only [pS])
 refine TK 5 ?_
 (try simp only [pS])
 clear hT
 obtain ⟨wv2, hx2, hw2⟩ := hR.parts
 have q8 := bx_cell hx2 8 rfl
 have f8 := bx_frozen hx2 8
 refine wpAnyH_ready (rs := [6]) (by kernel_rfl) (by simp) ?_
 refine AC (fun K hK => ?_) AllReadyH.nil
 go_simp
 refine hK.out _ _ ((World.cell?_setCell_far _ _ _ _ (by simp; omega)).trans hrr2) (fun _ => ?_)
 clear hK K
 refine wpAnyH_done (by kernel_rfl) ?_ _
 have HR3 := Lib.hid (HFIN.out _ (rest_set hR 8 (.int .i64 (resN (headW ws))) (by omega)))
 clear hR hx2 hw2 q8 f8
 go_wp2
 go_end0
 exact ⟨⟨_, rfl⟩, HR3.out⟩
end Go.Proofs.YtbmcngoeinginaaGreatDoor
namespace Go.Proofs.YtbmcngoeinginaaGreatDoor
open Go Go.RowKit Go.Lib
set_option maxRecDepth 100000 in
theorem line7_any (r rr : Nat) (c0 c1 c2 c3 c4 c5 c6 c7 c8 wv : Value) (ws : List (List UInt8)) (w : World) (hrr : w.cell? ⟨rr, 0, none⟩ = some (.pointer (some ⟨r, 0, none⟩))) (hx : RdBox r c0 c1 c2 c3 c4 c5 c6 c7 c8 wv w) (hw : WordsIn w wv ws) :
   Calls Tryz.prog 99 #[.pointer (some ⟨rr, 0, none⟩)] w fun e w' => (∃ v, e = .returned v) ∧ Rest r c0 c1 c2 c3 c4 (.bool true) c6 c7 c8 ws w w' := by
 have HR := Lib.hid (rest_set (show Rest r c0 c1 c2 c3 c4 c5 c6 c7 c8 ws w w from ⟨wv, hx, hw, alters_refl _ _⟩) 5 (.bool true) (by omega))
 unfold RdBox at hx
 have q5 := bx_cell hx 5 rfl
 have f5 := bx_frozen hx 5
 clear hx hw
 go_enter Tryz.func99, Tryz.ntmps99
 go_wp2
 go_end0
 exact ⟨⟨_, rfl⟩, HR.out⟩
set_option maxRecDepth 100000 in
theorem line3_any (r rr : Nat) (c0 c1 c2 c3 c4 c5 c6 c7 c8 wv : Value) (ws : List (List UInt8)) (w0 w : World) (hrr : w.cell? ⟨rr, 0, none⟩ = some (.pointer (some ⟨r, 0, none⟩))) (hne : rr ≠ r) (hx : RdBox r c0 c1 c2 c3 c4 c5 c6 c7 c8 wv w) (hw : WordsIn w wv ws) (hl : ws.length ≤ 1000) (hwl : ∀ x ∈ ws, x.length ≤ 1000000) (hE : LibIn w0) (hr : w0.heap.size ≤ r) (hb : Below w0.heap.size w0 w) :
   Calls Tryz.prog 94 #[.pointer (some ⟨rr, 0, none⟩)] w fun e w' => (∃ v, e = .returned v) ∧ ∃ tv, OwnInts w.heap.size w' tv (ws.map numS) ∧ Rest r c0 c1 tv c3 c4 c5 c6 c7 c8 [] w w' := by
 have hd : Below w.heap.size w w.drew := (Below.refl _ w).drew
 have hx1 : RdBox r c0 c1 c2 c3 c4 c5 c6 c7 c8 wv w.drew := hx
 have hw1 := hw.up hd
 have hb1 := below_step hb hd
 have hsz : w.drew.heap.size = w.heap.size := rfl
 have HN := Lib.hid (numbers_word r c0 c1 c2 c3 c4 c5 c6 c7 c8 wv ws w0 w.drew hx1 hw1 hl hwl hE hr hb1)
 rw [hsz] at HN
 have HFIN := Lib.hid (fun (tv : Value) W (p : Rest r c0 c1 tv c3 c4 c5 c6 c7 c8 [] w.drew W) => (show Rest r c0 c1 tv c3 c4 c5 c6 c7 c8 [] w W from by
   obtain ⟨wv3, h1, h2, h3⟩ := p;exact ⟨wv3, h1, h2, (Alters.of_below hd).trans h3⟩))
 have hrd : w.drew.cell? ⟨rr, 0, none⟩ = some (.pointer (some ⟨r, 0, none⟩)) := hrr
 have hrl := World.block_lt_of_cell? _ _ hrd
 have hrs := bx_lt hx1
 clear hx hw hx1 hw1 hrr
 go_enter Tryz.func94, Tryz.ntmps94
 refine wp_region_held_drew (S := fun W => W.cell? ⟨rr, 0, none⟩ = some (.pointer (some ⟨r, 0, none⟩))) (by kernel_rfl) hrd (fun hHeld => ?_)
 rw [hsz] at hrs
 clear hsz
 generalize w.drew = wD at *
 refine TK 0 ?_
 (try simp only [pS])
 refine TK 1 ?_
 (try simp only [pS])
 refine wpAnyH_ready (rs := [2]) (by kernel_rfl) (by simp) ?_
 refine AC (fun K hK => ?_) AllReadyH.nil
 refine step_call_h rfl 93 _ _ #[.pointer (some ⟨r, 0, none⟩)] rfl rfl (enters_of Tryz.func93 (by kernel_rfl) rfl) (HN.out.mono ?_)
 rintro e w2 ⟨tv, rfl, ho, hR⟩
 have hrr2 : w2.cell? ⟨rr, 0, none⟩ = some (.pointer (some ⟨r, 0, none⟩)) := by
   obtain ⟨_, _, _, ha⟩ := hR;exact (World.cell?_of_block (a := ⟨rr, 0, none⟩) (ha.block rr hrl hne)).trans hrd
 refine ⟨_, rfl, hK.out _ _ hrr2 (fun _ => ?_)⟩
 clear hK K
 (try simp only [pS])
 have hT := hrr2
 refine TK 3 ?_
 (try simp only [pS])
 refine TK 4 ?_
 (try simp only [pS])
 refine TK 5 ?_
 (try simp only [pS])
 refine TK 6 ?_
 (try simp only [pS])
 clear hT
 obtain ⟨ta, tc, rfl, -⟩ := ho.ints
 rw [List.length_map] at ho
 obtain ⟨wv2, hx2, hw2⟩ := hR.parts
 have q2 := bx_cell hx2 2 rfl
 have f2 := bx_frozen hx2 2
 refine wpAnyH_ready (rs := [7]) (by kernel_rfl) (by simp) ?_
 refine AC (fun K hK => ?_) AllReadyH.nil
 go_simp
 refine hK.out _ _ ((World.cell?_setCell_far _ _ _ _ (by simp; omega)).trans hrr2) (fun _ => ?_)
 clear hK K
 refine wpAnyH_done (by kernel_rfl) ?_ _
 have HR3 := Lib.hid (HFIN.out _ _ (rest_set hR 2 (.slice ta ws.length tc) (by omega)))
 have HO3 := Lib.hid (ho.kept_ hrs (alters_cell w2 r 2 (.slice ta ws.length tc)))
 clear hR hx2 hw2 q2 f2 ho
 go_wp2
 go_end0
 exact ⟨⟨_, rfl⟩, _, HO3.out, HR3.out⟩
end Go.Proofs.YtbmcngoeinginaaGreatDoor
namespace Go.Proofs.YtbmcngoeinginaaGreatDoor
open Go Go.RowKit
theorem step_pushC {w : World} {ops : Array Oper} {o : Oper} {a : Act} {K : Act → World → Prop} {Q : Exit → Act → World → Prop} {X : Prop} (hgd : o.guard = none) (t e : TypeId) (z : Value) (size bytes : Nat) (ht : Tryz.prog.underlying t = some (.slice e))
   (hinfo : (Tryz.prog.info? e).map (fun i => (i.zero, i.size, i.bytes)) = some (some z, size, bytes)) (hzs : z.cells.size = size) (hsz : 0 < size) (hby : bytes ≤ 1000) (s y : Operand)
   (ho : o.op = .call { callee := .builtin .append, args := #[s, y], argTypes := #[t, t] }) (n : Nat) (v : Value) (k : Nat) (xs : List Value) (hs : a.eval s = v) (h : w.ownsRow n e size v k xs) (hk : k < 2000) (hn : n ≤ w.heap.size)
   (b c : Nat) (news : List Value) (hy : a.eval y = .slice (some ⟨b, 0, none⟩) 1 c) (hl : news.length = size) (hb : w.heap[b]? = some (.cells news.toArray e (0, 0))) (h1 : ∀ u ∈ news, u.oneCell' = true)
   (hK : ∀ g cap w', w'.ownsRow n e size (.slice (some ⟨g, 0, none⟩) (k + 1) cap) (k + 1) (xs ++ news) → w.grownBy w' v.ownBlock → (v.ownBlock = some g ∨ g = w.heap.size) → K (a.put o.dst (.slice (some ⟨g, 0, none⟩) (k + 1) cap)) w') :
   if Region.wanted o (yielded ops a.tmps) = true then Oper.wp Tryz.prog o a w K Q else X := by
 have hw : Region.wanted o (yielded ops a.tmps) = true := by simp [Region.wanted, hgd]
 rw [if_pos hw]
 obtain ⟨i0, hi, hz0, hz1, hz2⟩ := info_parts hinfo
 obtain ⟨v', w', hr, h2, h3, _, h5⟩ := run_append_own_at (P := Tryz.prog) w n t o.type e i0 z size bytes ht hi hz0 hz1 hz2 hzs hsz v k xs h ⟨b, 0, none⟩ 1 c news (by omega)
   (by intro j u hj
       have e : (⟨b, 0, none⟩ : Addr).add j = ⟨b, j, none⟩ := by by_cases h : j = 0 <;> simp [Addr.add, h]
       rw [e];unfold World.cell?;rw [hb]
       simpa using hj) h1 (by unfold maxLen; omega)
   (Nat.le_trans (Nat.mul_le_mul (show k + 1 ≤ 2000 by omega) hby) (by omega)) hn
 obtain ⟨g, cap, rfl⟩ := ownsRow_succ h2
 unfold Oper.wp
 simp [execOp, ho, resolve, invoke, builtin, hs, hy, hr, Result.andThen]
 refine hK g cap w' h2 h3 ?_
 rcases h5 with h | h
 · left; rw [← h]; rfl
 · right; simpa [Value.ownBlock] using h
theorem wpList_pushC {w : World} {ops : Array Oper} {rest : List Oper} {o : Oper} {a : Act} {Q : Exit → Act → World → Prop} (hgd : o.guard = none) (t e : TypeId) (z : Value) (size bytes : Nat) (ht : Tryz.prog.underlying t = some (.slice e))
   (hinfo : (Tryz.prog.info? e).map (fun i => (i.zero, i.size, i.bytes)) = some (some z, size, bytes)) (hzs : z.cells.size = size) (hsz : 0 < size) (hby : bytes ≤ 1000) (s y : Operand)
   (ho : o.op = .call { callee := .builtin .append, args := #[s, y], argTypes := #[t, t] }) (n : Nat) (v : Value) (k : Nat) (xs : List Value) (hs : a.eval s = v) (h : w.ownsRow n e size v k xs) (hk : k < 2000) (hn : n ≤ w.heap.size)
   (b c : Nat) (news : List Value) (hy : a.eval y = .slice (some ⟨b, 0, none⟩) 1 c) (hl : news.length = size) (hb : w.heap[b]? = some (.cells news.toArray e (0, 0))) (h1 : ∀ u ∈ news, u.oneCell' = true)
   (hK : ∀ g cap w', w'.ownsRow n e size (.slice (some ⟨g, 0, none⟩) (k + 1) cap) (k + 1) (xs ++ news) → w.grownBy w' v.ownBlock → (v.ownBlock = some g ∨ g = w.heap.size) → wpList Tryz.prog ops Q rest (a.put o.dst (.slice (some ⟨g, 0, none⟩) (k + 1) cap)) w') :
   wpList Tryz.prog ops Q (o :: rest) a w :=
 wpList_plain hgd fun K hK' => by
   have h2 := step_pushC (w := w) (ops := ops) (Q := Q) (K := K) (X := True) hgd t e z size bytes ht hinfo hzs hsz hby s y ho n v k xs hs h hk hn b c news hy hl hb h1 (fun g cap w' h1 h2 h3 => hK' _ _ (hK g cap w' h1 h2 h3));rw [if_pos (by simp [Region.wanted, hgd])] at h2;exact h2
theorem info_progC : (Tryz.prog.info? 68).map (fun i => (i.zero, i.size, i.bytes)) = some (some (.slice none 0 0), 1, 24) := by kernel_rfl
theorem info_kindC : (Tryz.prog.info? 63).map (fun i => (i.zero, i.size, i.bytes)) = some (some (.agg #[.string ⟨#[]⟩, .slice none 0 0, .bool false]), 3, 48) := by kernel_rfl
theorem info_clauseC : (Tryz.prog.info? 70).map (fun i => (i.zero, i.size, i.bytes)) = some (some (.agg #[.int .i64 0, .int .i64 0, .int .i64 0, .int .i64 0]), 4, 32) := by kernel_rfl
theorem info_rowC : (Tryz.prog.info? 32).map (fun i => (i.zero, i.size, i.bytes)) = some (some (.slice none 0 0), 1, 24) := by kernel_rfl
end Go.Proofs.YtbmcngoeinginaaGreatDoor
namespace Go.Proofs.YtbmcngoeinginaaGreatDoor
open Go Go.RowKit Go.Lib
structure Added (r h : Nat) (e : TypeId) (size k : Nat) (v : Value) (xs news : List Value) (c0 c1 c2 c3 c4 c5 c6 c7 c8 wv : Value) (g cap : Nat) (w w' : World) : Prop where
 box : RdBox r c0 c1 c2 c3 c4 c5 c6 c7 c8 wv w'
 own : w'.ownsRow h e size (.slice (some ⟨g, 0, none⟩) (k + 1) cap) (k + 1) (xs ++ news)
 alt : Alters (fun b => b = r ∨ some b = v.ownBlock) w w'
 at_ : v.ownBlock = some g ∨ w.heap.size ≤ g
theorem info_clause4 : (Tryz.prog.info? 70).map (·.size) = some 4 := by kernel_rfl
theorem range_of_box {W : World} {b : Nat} {cs : List Value} {T : TypeId} (h : W.heap[b]? = some (.cells cs.toArray T (0, 0))) : W.rangeAt b 0 cs := fun j v hv => by
 rw [Nat.zero_add]
 exact bx_cell h j (by simpa using hv)
theorem World.ownsRow.altR {n : Nat} {W W' : World} {e : TypeId} {size k : Nat} {v : Value} {xs : List Value} {S : Nat → Prop} (h : W.ownsRow n e size v k xs) (ha : Alters S W W') (hS : ∀ b, S b → ¬ some b = v.ownBlock) : W'.ownsRow n e size v k xs := by
 refine ⟨h.1, ?_⟩
 rcases h.2 with h2 | ⟨g, cap, cur, rfl, hg, hc, r⟩
 · exact .inl h2
 · exact .inr ⟨g, cap, cur, rfl, hg, (ha.block g (Array.getElem?_eq_some_iff.1 hc).1 (fun hs => hS g hs rfl)).trans hc, r⟩
theorem World.ownsRow.upB {n : Nat} {W W' : World} {e : TypeId} {size k : Nat} {v : Value} {xs : List Value} (h : W.ownsRow n e size v k xs) (hb : Below W.heap.size W W') : W'.ownsRow n e size v k xs := World.ownsRow.altR h (S := fun _ => False) (Alters.of_below hb) (fun _ h => h.elim)
theorem not_own_pushed {n size k : Nat} {W W7 : World} {e : TypeId} {v : Value} {xs : List Value} {b : Nat} {o : Obj} {ob : Obj} (_h : W.ownsRow n e size v k xs) (hB : W.heap[b]? = some ob) (hne : ¬ some b = v.ownBlock) (hg : (W.alloc o).grownBy W7 v.ownBlock) : W7.heap[b]? = some ob :=
 (hg.block b (by rw [World.size_alloc]; have := (Array.getElem?_eq_some_iff.1 hB).1; omega) hne).trans ((Below.heap_alloc _ _ _ (Array.getElem?_eq_some_iff.1 hB).1).trans hB)
set_option maxRecDepth 100000 in
set_option maxHeartbeats 2000000 in
theorem addClause_any (r h k : Nat) (c0 c1 c2 c3 c4 c5 vc c7 c8 wv : Value) (xs : List Value) (f0 f1 f2 f3 : Int) (w : World) (hx : RdBox r c0 c1 c2 c3 c4 c5 vc c7 c8 wv w) (ho : w.ownsRow h 70 4 vc k xs) (hrh : r < h) (hk : k < 1000) (hh : h ≤ w.heap.size) :
   Calls Tryz.prog 101 #[.pointer (some ⟨r, 0, none⟩), .agg #[.int .i64 f0, .int .i64 f1, .int .i64 f2, .int .i64 f3]] w fun e w' => (∃ v, e = .returned v) ∧ ∃ g cap, Added r h 70 4 k vc xs [.int .i64 f0, .int .i64 f1, .int .i64 f2, .int .i64 f3] c0 c1 c2 c3 c4 c5 (.slice (some ⟨g, 0, none⟩) (k + 1) cap) c7 c8 wv g cap w w' := by
 have hb := below_alloc (Below.refl _ w) (.cells #[.int .i64 f0, .int .i64 f1, .int .i64 f2, .int .i64 f3] 70)
 have hcb : (w.alloc (.cells #[.int .i64 f0, .int .i64 f1, .int .i64 f2, .int .i64 f3] 70)).heap[w.heap.size]? = some (.cells #[.int .i64 f0, .int .i64 f1, .int .i64 f2, .int .i64 f3] 70 (0, 0)) := World.alloc_heap_new _ _
 have hd := below_step hb (Below.refl _ (w.alloc (.cells #[.int .i64 f0, .int .i64 f1, .int .i64 f2, .int .i64 f3] 70))).drew
 have hxD : RdBox r c0 c1 c2 c3 c4 c5 vc c7 c8 wv (w.alloc (.cells #[.int .i64 f0, .int .i64 f1, .int .i64 f2, .int .i64 f3] 70)).drew := (hb.block r (bx_lt hx)).trans hx
 have hoD := World.ownsRow.upB ho hd
 have hcbD : (w.alloc (.cells #[.int .i64 f0, .int .i64 f1, .int .i64 f2, .int .i64 f3] 70)).drew.heap[w.heap.size]? = some (.cells #[.int .i64 f0, .int .i64 f1, .int .i64 f2, .int .i64 f3] 70 (0, 0)) := hcb
 have hsz : w.heap.size ≤ (w.alloc (.cells #[.int .i64 f0, .int .i64 f1, .int .i64 f2, .int .i64 f3] 70)).drew.heap.size := hd.size
 have HRN : Hid (¬ some r = vc.ownBlock) := Lib.hid (fun e => by have := (World.ownsRow.lt ho _ e.symm).1; omega)
 have HNE : Hid (w.heap.size ≠ r) := Lib.hid (by have := bx_lt hx; omega)
 have HTY : Hid (¬ some w.heap.size = vc.ownBlock) := Lib.hid (fun e => by have := (World.ownsRow.lt ho _ e.symm).2; omega)
 go_enter Tryz.func101, Tryz.ntmps101
 go_upto_region 1 with (fail)
 refine wp_region_held_drew (S := fun W => W.rangeAt w.heap.size 0 [.int .i64 f0, .int .i64 f1, .int .i64 f2, .int .i64 f3]) (by kernel_rfl) (range_of_box hcbD) (fun hHeld => ?_)
 obtain ⟨cb, hcbe⟩ : ∃ cb, w.heap.size = cb := ⟨_, rfl⟩
 have HFIN := Lib.hid (fun (g cap : Nat) (w7 : World) (hown : w7.ownsRow h 70 4 (.slice (some ⟨g, 0, none⟩) (k + 1) cap) (k + 1) (xs ++ [.int .i64 f0, .int .i64 f1, .int .i64 f2, .int .i64 f3])) (hg : ((w.alloc (.cells #[.int .i64 f0, .int .i64 f1, .int .i64 f2, .int .i64 f3] 70)).drew.alloc (.cells #[.int .i64 f0, .int .i64 f1, .int .i64 f2, .int .i64 f3] 70)).grownBy w7 vc.ownBlock) (hat : vc.ownBlock = some g ∨ g = ((w.alloc (.cells #[.int .i64 f0, .int .i64 f1, .int .i64 f2, .int .i64 f3] 70)).drew.alloc (.cells #[.int .i64 f0, .int .i64 f1, .int .i64 f2, .int .i64 f3] 70)).heap.size) (hx7 : RdBox r c0 c1 c2 c3 c4 c5 vc c7 c8 wv w7) =>
   (show Added r h 70 4 k vc xs [.int .i64 f0, .int .i64 f1, .int .i64 f2, .int .i64 f3] c0 c1 c2 c3 c4 c5 (.slice (some ⟨g, 0, none⟩) (k + 1) cap) c7 c8 wv g cap w (w7.setCell ⟨r, 6, none⟩ (.slice (some ⟨g, 0, none⟩) (k + 1) cap)) from by
     have hal := alters_cell w7 r 6 (.slice (some ⟨g, 0, none⟩) (k + 1) cap);have hbb : Below w.heap.size w ((w.alloc (.cells #[.int .i64 f0, .int .i64 f1, .int .i64 f2, .int .i64 f3] 70)).drew.alloc (.cells #[.int .i64 f0, .int .i64 f1, .int .i64 f2, .int .i64 f3] 70)) := below_step hd (below_alloc (Below.refl _ _) _);refine ⟨?_, ?_, ((Alters.of_below hbb).trans ((Alters.of_grown hg).mono (fun _ _ h => .inr h))).trans (hal.mono (fun _ _ h => .inl h)), ?_⟩
     · unfold RdBox at hx7 ⊢
       rw [bx_set_ hx7 6]; rfl
     · exact World.ownsRow.altR hown hal (fun b hb hv => by have hb : b = r := hb; have := (World.ownsRow.lt hown b hv.symm).1; omega)
     · rcases hat with e | e
       · exact .inl e
       · exact .inr (by rw [e]; exact hbb.size)))
 rw [hcbe] at hcbD HNE HTY
 (try simp only [hcbe])
 (try rw [hcbe] at hHeld)
 clear hcb hb hcbe
 generalize (w.alloc (.cells #[.int .i64 f0, .int .i64 f1, .int .i64 f2, .int .i64 f3] 70)).drew = wD at *
 have q6D := bx_cell hxD 6 rfl
 have hba := below_alloc (Below.refl _ wD) (.cells #[.int .i64 f0, .int .i64 f1, .int .i64 f2, .int .i64 f3] 70)
 have HRG := Lib.hid (range_of_box hcbD)
 have HRA := Lib.hid (range_of_box ((hba.block cb (bx_lt hcbD)).trans hcbD))
 have HOA := Lib.hid (World.ownsRow.upB hoD hba)
 have HOD := Lib.hid hoD
 have HXD : Hid (wD.heap[r]? = _) := Lib.hid hxD
 have HCB := Lib.hid hcbD
 have HSZ : Hid (h ≤ (wD.alloc (.cells #[.int .i64 f0, .int .i64 f1, .int .i64 f2, .int .i64 f3] 70)).heap.size) := Lib.hid (Nat.le_trans hh (Nat.le_trans hsz hba.size))
 clear hoD hxD hcbD hba
 refine TK 0 ?_
 (try simp only [pS])
 refine TK 1 ?_
 (try simp only [pS])
 refine TK 2 ?_
 (try simp only [pS])
 refine TK 3 ?_
 (try simp only [pS])
 refine TK 4 ?_
 (try simp only [pS])
 refine TX 6 (v := .agg #[.int .i64 f0, .int .i64 f1, .int .i64 f2, .int .i64 f3]) (yieldsIf_load_mid rfl 70 (.tmp 3) rfl cb 0 rfl [.int .i64 f0, .int .i64 f1, .int .i64 f2, .int .i64 f3] _ (fun W hW => hW) Tryz.underlying70 rfl info_clause4) ?_
 (try simp only [pS])
 refine wpAnyH_ready (rs := [5, 7]) (by kernel_rfl) (by simp) ?_
 refine AC (fun K hK => ?_) (AC (fun K hK => ?_) AllReadyH.nil)
 · skip
   go_simp;refine hK.out _ _ (HRG.out) (fun _ => ?_);clear hK K;(try simp only [pS]);refine wpAnyH_ready (rs := [7]) (by kernel_rfl) (by simp) ?_;refine AC (fun K hK => ?_) AllReadyH.nil;go_simp;refine hK.out _ _ (HRA.out) (fun _ => ?_);clear hK K;(try simp only [pS]);refine wpAnyH_ready (rs := [8]) (by kernel_rfl) (by simp) ?_;refine AC (fun K hK => ?_) AllReadyH.nil;refine step_pushC rfl 36 70 (.agg #[.int .i64 0, .int .i64 0, .int .i64 0, .int .i64 0]) 4 32 Tryz.underlying36 info_clauseC rfl (by decide) (by decide) (.tmp 9) (.tmp 11) rfl h vc k xs rfl HOA.out (by omega) HSZ.out wD.heap.size 1 [.int .i64 f0, .int .i64 f1, .int .i64 f2, .int .i64 f3] rfl rfl (World.alloc_heap_new _ _) (by simp [Value.oneCell']) (fun g cap w7 hown hg hat => ?_);have hx7 := not_own_pushed HOD.out HXD.out HRN.out hg;have hcb7 := not_own_pushed HOD.out HCB.out HTY.out hg
   refine hK.out _ _ (range_of_box hcb7) (fun _ => ?_);clear hK K;(try simp only [pS]);have hT := range_of_box hcb7;refine TK 9 ?_;(try simp only [pS]);refine TK 10 ?_;(try simp only [pS]);refine TK 11 ?_;(try simp only [pS]);clear hT;have q6 := bx_cell hx7 6 rfl;have f6 := bx_frozen hx7 6;refine wpAnyH_ready (rs := [12]) (by kernel_rfl) (by simp) ?_;refine AC (fun K hK => ?_) AllReadyH.nil;go_simp;have hcb8 := (alters_cell w7 r 6 (.slice (some ⟨g, 0, none⟩) (k + 1) cap)).block cb (bx_lt hcb7) HNE.out;refine hK.out _ _ (range_of_box (hcb8.trans hcb7)) (fun _ => ?_);clear hK K;refine wpAnyH_done (by kernel_rfl) ?_ _;have hfin := HFIN.out g cap w7 hown hg hat hx7;have HR := Lib.hid hfin;clear hown hg hat hx7 hcb7 hcb8 hfin q6 f6;go_wp2;go_end0;exact ⟨⟨_, rfl⟩, g, cap, HR.out⟩
 · skip
   go_simp;have c9 := cell_alloc_keep q6D (.cells #[.int .i64 f0, .int .i64 f1, .int .i64 f2, .int .i64 f3] 70);refine hK.out _ _ (HRA.out) (fun _ => ?_);clear hK K;(try simp only [pS]);refine wpAnyH_ready (rs := [5]) (by kernel_rfl) (by simp) ?_;refine AC (fun K hK => ?_) AllReadyH.nil;go_simp;refine hK.out _ _ (HRA.out) (fun _ => ?_);clear hK K;(try simp only [pS]);refine wpAnyH_ready (rs := [8]) (by kernel_rfl) (by simp) ?_;refine AC (fun K hK => ?_) AllReadyH.nil;refine step_pushC rfl 36 70 (.agg #[.int .i64 0, .int .i64 0, .int .i64 0, .int .i64 0]) 4 32 Tryz.underlying36 info_clauseC rfl (by decide) (by decide) (.tmp 9) (.tmp 11) rfl h vc k xs rfl HOA.out (by omega) HSZ.out wD.heap.size 1 [.int .i64 f0, .int .i64 f1, .int .i64 f2, .int .i64 f3] rfl rfl (World.alloc_heap_new _ _) (by simp [Value.oneCell']) (fun g cap w7 hown hg hat => ?_)
   have hx7 := not_own_pushed HOD.out HXD.out HRN.out hg;have hcb7 := not_own_pushed HOD.out HCB.out HTY.out hg;refine hK.out _ _ (range_of_box hcb7) (fun _ => ?_);clear hK K;(try simp only [pS]);have hT := range_of_box hcb7;refine TK 9 ?_;(try simp only [pS]);refine TK 10 ?_;(try simp only [pS]);refine TK 11 ?_;(try simp only [pS]);clear hT;have q6 := bx_cell hx7 6 rfl;have f6 := bx_frozen hx7 6;refine wpAnyH_ready (rs := [12]) (by kernel_rfl) (by simp) ?_;refine AC (fun K hK => ?_) AllReadyH.nil;go_simp;have hcb8 := (alters_cell w7 r 6 (.slice (some ⟨g, 0, none⟩) (k + 1) cap)).block cb (bx_lt hcb7) HNE.out;refine hK.out _ _ (range_of_box (hcb8.trans hcb7)) (fun _ => ?_);clear hK K;refine wpAnyH_done (by kernel_rfl) ?_ _;have hfin := HFIN.out g cap w7 hown hg hat hx7;have HR := Lib.hid hfin;clear hown hg hat hx7 hcb7 hcb8 hfin q6 f6;go_wp2;go_end0;exact ⟨⟨_, rfl⟩, g, cap, HR.out⟩
end Go.Proofs.YtbmcngoeinginaaGreatDoor
namespace Go.Proofs.YtbmcngoeinginaaGreatDoor
open Go Go.RowKit Go.Lib
theorem apart_types {n m size k size2 k2 b : Nat} {W : World} {e e2 : TypeId} {v v2 : Value} {xs xs2 : List Value} (h1 : W.ownsRow n e size v k xs) (h2 : W.ownsRow m e2 size2 v2 k2 xs2) (hne : e ≠ e2) (hb : some b = v.ownBlock) : ¬ some b = v2.ownBlock := fun hb2 => by
 obtain ⟨c1, e1⟩ := own_has_ h1 hb
 obtain ⟨c2, e3⟩ := own_has_ h2 hb2
 rw [e1] at e3
 cases e3
 exact hne rfl
theorem fin_dir {r h k g cap : Nat} {c0 vn c2 c3 c4 c5 c6 c7 c8 wv2 rv : Value} {vs : List Value} {l : List Int} {w w2 w7 : World} (hrh : r < h) (hhw : h ≤ w.heap.size) (ha : Alters (fun b => b = r) w w2) (hx2 : RdBox r c0 vn c2 c3 c4 c5 c6 c7 c8 wv2 w2) (hw2 : WordsIn w2 wv2 []) (hrv : OwnInts w.heap.size w2 rv l) (ho2 : w2.ownsRow h 32 1 vn k vs)
   (hown : w7.ownsRow h 32 1 (.slice (some ⟨g, 0, none⟩) (k + 1) cap) (k + 1) (vs ++ [rv])) (hg : (w2.alloc (.cells #[rv] 32)).grownBy w7 vn.ownBlock) (hat : vn.ownBlock = some g ∨ g = (w2.alloc (.cells #[rv] 32)).heap.size) :
   Added r h 32 1 k vn vs [rv] c0 (.slice (some ⟨g, 0, none⟩) (k + 1) cap) c2 c3 c4 c5 c6 c7 c8 wv2 g cap w (w7.setCell ⟨r, 1, none⟩ (.slice (some ⟨g, 0, none⟩) (k + 1) cap)) ∧ WordsIn (w7.setCell ⟨r, 1, none⟩ (.slice (some ⟨g, 0, none⟩) (k + 1) cap)) wv2 [] ∧ OwnInts w.heap.size (w7.setCell ⟨r, 1, none⟩ (.slice (some ⟨g, 0, none⟩) (k + 1) cap)) rv l := by
 have hal := alters_cell w7 r 1 (.slice (some ⟨g, 0, none⟩) (k + 1) cap)
 have hba := below_alloc (Below.refl _ w2) (.cells #[rv] 32)
 have hrn : ¬ some r = vn.ownBlock := fun e => by have := (World.ownsRow.lt ho2 _ e.symm).1; omega
 have hx7 : w7.heap[r]? = _ := not_own_pushed ho2 hx2 hrn hg
 have hrva := hrv.alters (S := fun _ => False) (Alters.of_below hba) (fun _ h => h.elim)
 have ho2a := World.ownsRow.upB ho2 hba
 have hrv7 : OwnInts w.heap.size w7 rv l := hrva.alters (Alters.of_grown hg) (fun b hb => apart_types ho2a hrva (by decide) hb)
 refine ⟨⟨?_, ?_, ?_, ?_⟩, ?_, ?_⟩
 · unfold RdBox
   rw [bx_set_ hx7 1]; rfl
 · exact World.ownsRow.altR hown hal (fun b hb hv => by have hb : b = r := hb; have := (World.ownsRow.lt hown b hv.symm).1; omega)
 · exact (((ha.mono (fun _ _ h => .inl h)).trans (Alters.of_below hba)).trans ((Alters.of_grown hg).mono (fun _ _ h => .inr h))).trans (hal.mono (fun _ _ h => .inl h))
 · rcases hat with e | e
   · exact .inl e
   · exact .inr (by rw [e]; exact Nat.le_trans ha.size hba.size)
 · obtain ⟨a, c, e, hc, _⟩ := hw2
   exact ⟨a, c, e, hc, .inl rfl⟩
 · exact hrv7.alters hal (fun b hb hv => by have hb : b = r := hb; have := (World.ownsRow.lt hrv7 b hv.symm).1; omega)
set_option maxRecDepth 100000 in
set_option maxHeartbeats 2000000 in
theorem line2_any (r rr h k : Nat) (c0 vn c2 c3 c4 c5 c6 c7 c8 wv : Value) (vs : List Value) (ws : List (List UInt8)) (w0 w : World) (hrr : w.cell? ⟨rr, 0, none⟩ = some (.pointer (some ⟨r, 0, none⟩))) (hne : rr ≠ r) (hx : RdBox r c0 vn c2 c3 c4 c5 c6 c7 c8 wv w) (hw : WordsIn w wv ws) (ho : w.ownsRow h 32 1 vn k vs) (hrh : r < h) (hk : k < 1000) (hh : h ≤ w.heap.size) (hro : ¬ some rr = vn.ownBlock) (hl : ws.length ≤ 1000) (hwl : ∀ x ∈ ws, x.length ≤ 1000000) (hE : LibIn w0) (hr : w0.heap.size ≤ r) (hb : Below w0.heap.size w0 w) :
   Calls Tryz.prog 92 #[.pointer (some ⟨rr, 0, none⟩)] w fun e w' => (∃ v, e = .returned v) ∧ ∃ g cap rv wv2, Added r h 32 1 k vn vs [rv] c0 (.slice (some ⟨g, 0, none⟩) (k + 1) cap) c2 c3 c4 c5 c6 c7 c8 wv2 g cap w w' ∧ WordsIn w' wv2 [] ∧ OwnInts w.heap.size w' rv (ws.map numS) := by
 have hd : Below w.heap.size w w.drew := (Below.refl _ w).drew
 have hsz : w.drew.heap.size = w.heap.size := rfl
 have hxD : RdBox r c0 vn c2 c3 c4 c5 c6 c7 c8 wv w.drew := hx
 have HN := Lib.hid (numbers_word r c0 vn c2 c3 c4 c5 c6 c7 c8 wv ws w0 w.drew hxD (hw.up hd) hl hwl hE hr (below_step hb hd))
 rw [hsz] at HN
 have hrd : w.drew.cell? ⟨rr, 0, none⟩ = some (.pointer (some ⟨r, 0, none⟩)) := hrr
 have hrl := World.block_lt_of_cell? _ _ hrd
 have hoD := World.ownsRow.upB ho hd
 have HAD := Lib.hid (show Alters (fun b => b = r) w w.drew from Alters.of_below hd)
 have hrn : ¬ some r = vn.ownBlock := fun e => by have := (World.ownsRow.lt ho _ e.symm).1; omega
 clear hx hw hrr ho
 go_enter Tryz.func92, Tryz.ntmps92
 refine wp_region_held_drew (S := fun W => W.cell? ⟨rr, 0, none⟩ = some (.pointer (some ⟨r, 0, none⟩))) (by kernel_rfl) hrd (fun hHeld => ?_)
 clear hd
 generalize w.drew = wD at *
 have q1 := bx_cell hxD 1 rfl
 refine TK 0 ?_
 (try simp only [pS])
 refine TK 1 ?_
 (try simp only [pS])
 refine TK 2 ?_
 (try simp only [pS])
 refine TK 3 ?_
 (try simp only [pS])
 refine TK 4 ?_
 (try simp only [pS])
 refine TK 5 ?_
 (try simp only [pS])
 refine TK 7 ?_
 (try simp only [pS])
 refine wpAnyH_ready (rs := [6, 8]) (by kernel_rfl) (by simp) ?_
 refine AC (fun K hK => ?_) (AC (fun K hK => ?_) AllReadyH.nil)
 · skip
   go_simp;refine hK.out _ _ hrd (fun _ => ?_);clear hK K;(try simp only [pS]);refine wpAnyH_ready (rs := [8]) (by kernel_rfl) (by simp) ?_;refine AC (fun K hK => ?_) AllReadyH.nil;refine step_call_h rfl 93 _ _ #[.pointer (some ⟨r, 0, none⟩)] rfl rfl (enters_of Tryz.func93 (by kernel_rfl) rfl) (HN.out.mono ?_);rintro e w2 ⟨rv, rfl, hrv, hR⟩;obtain ⟨wv2, hx2, hw2, ha2⟩ := hR;have hrr2 : w2.cell? ⟨rr, 0, none⟩ = some (.pointer (some ⟨r, 0, none⟩)) := (World.cell?_of_block (a := ⟨rr, 0, none⟩) (ha2.block rr hrl hne)).trans hrd
   have ho2 := World.ownsRow.altR hoD ha2 (fun b hb => by have hb : b = r := hb; rw [hb]; exact hrn)
   have ha02 := HAD.out.trans ha2;refine ⟨_, rfl, hK.out _ _ hrr2 (fun _ => ?_)⟩;clear hK K;(try simp only [pS]);obtain ⟨ta, tc, hte, -⟩ := hrv.ints;rw [List.length_map] at hte;subst hte;have q1b := bx_cell hx2 1 rfl;have hba := below_alloc (Below.refl _ w2) (.cells #[.slice ta ws.length tc] 32);have hrr3 := cell_keep hba hrr2;have hT2 := hrr2;refine wpAnyH_ready (rs := [9]) (by kernel_rfl) (by simp) ?_;refine AC (fun K hK => ?_) AllReadyH.nil;go_simp;refine hK.out _ _ hrr3 (fun _ => ?_);clear hK K;(try simp only [pS]);refine wpAnyH_ready (rs := [10]) (by kernel_rfl) (by simp) ?_;refine AC (fun K hK => ?_) AllReadyH.nil
   refine step_pushC rfl 31 32 (.slice none 0 0) 1 24 Tryz.underlying31 info_rowC rfl (by decide) (by decide) (.tmp 7) (.tmp 10) rfl h vn k vs rfl (World.ownsRow.upB ho2 hba) (by omega) (Nat.le_trans hh (Nat.le_trans ha02.size hba.size)) w2.heap.size 1 [.slice ta ws.length tc] rfl rfl (World.alloc_heap_new _ _) (by simp [Value.oneCell']) (fun g cap w7 hown hg hat => ?_);have hrr7 : w7.cell? ⟨rr, 0, none⟩ = some (.pointer (some ⟨r, 0, none⟩)) := (World.cell?_of_block (a := ⟨rr, 0, none⟩) (hg.block rr (Nat.lt_of_lt_of_le (World.block_lt_of_cell? _ _ hrr2) hba.size) hro)).trans hrr3;have hx7 : w7.heap[r]? = _ := not_own_pushed ho2 hx2 hrn hg;refine hK.out _ _ hrr7 (fun _ => ?_);clear hK K;(try simp only [pS]);have hT := hrr7;refine TK 11 ?_;(try simp only [pS]);refine TK 12 ?_;(try simp only [pS]);refine TK 13 ?_;(try simp only [pS]);refine TK 14 ?_;(try simp only [pS]);clear hT
   have q7 := bx_cell hx7 1 rfl;have f7 := bx_frozen hx7 1;refine wpAnyH_ready (rs := [15]) (by kernel_rfl) (by simp) ?_;refine AC (fun K hK => ?_) AllReadyH.nil;go_simp
   refine hK.out _ _ ((World.cell?_setCell_far _ _ _ _ (by simp; omega)).trans hrr7) (fun _ => ?_)
   clear hK K;refine wpAnyH_done (by kernel_rfl) ?_ _;have hfin := fin_dir hrh hh ha02 hx2 hw2 hrv ho2 hown hg hat;have HR := Lib.hid hfin;clear hown hg hat hx7 hfin q7 f7 hrr7;go_wp2;go_end0;exact ⟨⟨_, rfl⟩, g, cap, _, _, HR.out⟩
 · skip
   refine step_call_h rfl 93 _ _ #[.pointer (some ⟨r, 0, none⟩)] rfl rfl (enters_of Tryz.func93 (by kernel_rfl) rfl) (HN.out.mono ?_);rintro e w2 ⟨rv, rfl, hrv, hR⟩;obtain ⟨wv2, hx2, hw2, ha2⟩ := hR;have hrr2 : w2.cell? ⟨rr, 0, none⟩ = some (.pointer (some ⟨r, 0, none⟩)) := (World.cell?_of_block (a := ⟨rr, 0, none⟩) (ha2.block rr hrl hne)).trans hrd
   have ho2 := World.ownsRow.altR hoD ha2 (fun b hb => by have hb : b = r := hb; rw [hb]; exact hrn)
   have ha02 := HAD.out.trans ha2;refine ⟨_, rfl, hK.out _ _ hrr2 (fun _ => ?_)⟩;clear hK K;(try simp only [pS]);obtain ⟨ta, tc, hte, -⟩ := hrv.ints;rw [List.length_map] at hte;subst hte;have q1b := bx_cell hx2 1 rfl;have hba := below_alloc (Below.refl _ w2) (.cells #[.slice ta ws.length tc] 32);have hrr3 := cell_keep hba hrr2;have hT2 := hrr2;refine wpAnyH_ready (rs := [6, 9]) (by kernel_rfl) (by simp) ?_;refine AC (fun K hK => ?_) (AC (fun K hK => ?_) AllReadyH.nil)
   · skip
     go_simp;refine hK.out _ _ hrr2 (fun _ => ?_);clear hK K;(try simp only [pS]);refine wpAnyH_ready (rs := [9]) (by kernel_rfl) (by simp) ?_;refine AC (fun K hK => ?_) AllReadyH.nil;go_simp;refine hK.out _ _ hrr3 (fun _ => ?_);clear hK K;(try simp only [pS]);refine wpAnyH_ready (rs := [10]) (by kernel_rfl) (by simp) ?_;refine AC (fun K hK => ?_) AllReadyH.nil;refine step_pushC rfl 31 32 (.slice none 0 0) 1 24 Tryz.underlying31 info_rowC rfl (by decide) (by decide) (.tmp 7) (.tmp 10) rfl h vn k vs rfl (World.ownsRow.upB ho2 hba) (by omega) (Nat.le_trans hh (Nat.le_trans ha02.size hba.size)) w2.heap.size 1 [.slice ta ws.length tc] rfl rfl (World.alloc_heap_new _ _) (by simp [Value.oneCell']) (fun g cap w7 hown hg hat => ?_)
     have hrr7 : w7.cell? ⟨rr, 0, none⟩ = some (.pointer (some ⟨r, 0, none⟩)) := (World.cell?_of_block (a := ⟨rr, 0, none⟩) (hg.block rr (Nat.lt_of_lt_of_le (World.block_lt_of_cell? _ _ hrr2) hba.size) hro)).trans hrr3;have hx7 : w7.heap[r]? = _ := not_own_pushed ho2 hx2 hrn hg;refine hK.out _ _ hrr7 (fun _ => ?_);clear hK K;(try simp only [pS]);have hT := hrr7;refine TK 11 ?_;(try simp only [pS]);refine TK 12 ?_;(try simp only [pS]);refine TK 13 ?_;(try simp only [pS]);refine TK 14 ?_;(try simp only [pS]);clear hT;have q7 := bx_cell hx7 1 rfl;have f7 := bx_frozen hx7 1;refine wpAnyH_ready (rs := [15]) (by kernel_rfl) (by simp) ?_;refine AC (fun K hK => ?_) AllReadyH.nil;go_simp
     refine hK.out _ _ ((World.cell?_setCell_far _ _ _ _ (by simp; omega)).trans hrr7) (fun _ => ?_)
     clear hK K;refine wpAnyH_done (by kernel_rfl) ?_ _;have hfin := fin_dir hrh hh ha02 hx2 hw2 hrv ho2 hown hg hat;have HR := Lib.hid hfin;clear hown hg hat hx7 hfin q7 f7 hrr7;go_wp2;go_end0;exact ⟨⟨_, rfl⟩, g, cap, _, _, HR.out⟩
   · skip
     go_simp;have c9 := cell_keep hba q1b;refine hK.out _ _ hrr3 (fun _ => ?_);clear hK K;(try simp only [pS]);refine wpAnyH_ready (rs := [6]) (by kernel_rfl) (by simp) ?_;refine AC (fun K hK => ?_) AllReadyH.nil;go_simp;refine hK.out _ _ hrr3 (fun _ => ?_);clear hK K;(try simp only [pS]);refine wpAnyH_ready (rs := [10]) (by kernel_rfl) (by simp) ?_;refine AC (fun K hK => ?_) AllReadyH.nil;refine step_pushC rfl 31 32 (.slice none 0 0) 1 24 Tryz.underlying31 info_rowC rfl (by decide) (by decide) (.tmp 7) (.tmp 10) rfl h vn k vs rfl (World.ownsRow.upB ho2 hba) (by omega) (Nat.le_trans hh (Nat.le_trans ha02.size hba.size)) w2.heap.size 1 [.slice ta ws.length tc] rfl rfl (World.alloc_heap_new _ _) (by simp [Value.oneCell']) (fun g cap w7 hown hg hat => ?_)
     have hrr7 : w7.cell? ⟨rr, 0, none⟩ = some (.pointer (some ⟨r, 0, none⟩)) := (World.cell?_of_block (a := ⟨rr, 0, none⟩) (hg.block rr (Nat.lt_of_lt_of_le (World.block_lt_of_cell? _ _ hrr2) hba.size) hro)).trans hrr3;have hx7 : w7.heap[r]? = _ := not_own_pushed ho2 hx2 hrn hg;refine hK.out _ _ hrr7 (fun _ => ?_);clear hK K;(try simp only [pS]);have hT := hrr7;refine TK 11 ?_;(try simp only [pS]);refine TK 12 ?_;(try simp only [pS]);refine TK 13 ?_;(try simp only [pS]);refine TK 14 ?_;(try simp only [pS]);clear hT;have q7 := bx_cell hx7 1 rfl;have f7 := bx_frozen hx7 1;refine wpAnyH_ready (rs := [15]) (by kernel_rfl) (by simp) ?_;refine AC (fun K hK => ?_) AllReadyH.nil;go_simp
     refine hK.out _ _ ((World.cell?_setCell_far _ _ _ _ (by simp; omega)).trans hrr7) (fun _ => ?_)
     clear hK K;refine wpAnyH_done (by kernel_rfl) ?_ _;have hfin := fin_dir hrh hh ha02 hx2 hw2 hrv ho2 hown hg hat;have HR := Lib.hid hfin;clear hown hg hat hx7 hfin q7 f7 hrr7;go_wp2;go_end0;exact ⟨⟨_, rfl⟩, g, cap, _, _, HR.out⟩
end Go.Proofs.YtbmcngoeinginaaGreatDoor
namespace Go.Proofs.YtbmcngoeinginaaGreatDoor
open Go Go.RowKit Go.Lib
theorem Added.words {r h : Nat} {e : TypeId} {size k : Nat} {v : Value} {xs news : List Value} {c0 c1 c2 c3 c4 c5 c6 c7 c8 wv d0 d1 d2 d3 d4 d5 d6 d7 d8 dv : Value} {g cap : Nat} {w w' : World} {ws : List (List UInt8)} (a : Added r h e size k v xs news c0 c1 c2 c3 c4 c5 c6 c7 c8 wv g cap w w') (hx : RdBox r d0 d1 d2 d3 d4 d5 d6 d7 d8 dv w) (ho : w.ownsRow h e size v k xs) (he : e ≠ 9) (hw : WordsIn w wv ws) : WordsIn w' wv ws :=
 hw.alters a.alt (fun b hb cs hc => by
   rcases hb with hb | hb
   · exact rd_not hx b hb cs hc
   · obtain ⟨c9, hc9⟩ := own_has_ ho hb
     rw [hc9] at hc
     cases hc
     exact he rfl)
theorem Added.from {r h : Nat} {e : TypeId} {size k : Nat} {v : Value} {xs news : List Value} {c0 c1 c2 c3 c4 c5 c6 c7 c8 wv : Value} {g cap : Nat} {w0 w w' : World} (a : Added r h e size k v xs news c0 c1 c2 c3 c4 c5 c6 c7 c8 wv g cap w w') (h0 : Alters (fun b => b = r) w0 w) : Added r h e size k v xs news c0 c1 c2 c3 c4 c5 c6 c7 c8 wv g cap w0 w' :=
 ⟨a.box, a.own, (h0.mono (fun _ _ h => .inl h)).trans a.alt, a.at_.imp (fun h => h) (fun h => Nat.le_trans h0.size h)⟩
set_option maxRecDepth 100000 in
set_option maxHeartbeats 2000000 in
theorem line10_any (r rr h k : Nat) (c0 c1 c2 c3 c4 c5 vc c7 c8 wv : Value) (xs : List Value) (ws : List (List UInt8)) (w0 w : World) (hrr : w.cell? ⟨rr, 0, none⟩ = some (.pointer (some ⟨r, 0, none⟩))) (hne : rr ≠ r) (hx : RdBox r c0 c1 c2 c3 c4 c5 vc c7 c8 wv w) (hw : WordsIn w wv ws) (ho : w.ownsRow h 70 4 vc k xs) (hrh : r < h) (hk : k < 1000) (hh : h ≤ w.heap.size) (hro : ¬ some rr = vc.ownBlock) (hl : ws.length ≤ 1000) (hwl : ∀ x ∈ ws, x.length ≤ 1000000) (hE : LibIn w0) (hR0 : ResIn w0) (hr : w0.heap.size ≤ r) (hb : Below w0.heap.size w0 w) :
   Calls Tryz.prog 105 #[.pointer (some ⟨rr, 0, none⟩)] w fun e w' => (∃ v, e = .returned v) ∧ ∃ g cap wv2, Added r h 70 4 k vc xs [.int .i64 3, .int .i64 0, .int .i64 (numS (headW ws)), .int .i64 (resN (headW ws.tail))] c0 c1 c2 c3 c4 c5 (.slice (some ⟨g, 0, none⟩) (k + 1) cap) c7 c8 wv2 g cap w w' ∧ WordsIn w' wv2 ws.tail.tail := by
 have hd : Below w.heap.size w w.drew := (Below.refl _ w).drew
 have hxD : RdBox r c0 c1 c2 c3 c4 c5 vc c7 c8 wv w.drew := hx
 have hbD := below_step hb hd
 have HN := Lib.hid (number_word r c0 c1 c2 c3 c4 c5 vc c7 c8 wv ws w0 w.drew hxD (hw.up hd) hl hwl hE hr hbD)
 have hrd : w.drew.cell? ⟨rr, 0, none⟩ = some (.pointer (some ⟨r, 0, none⟩)) := hrr
 have hrl := World.block_lt_of_cell? _ _ hrd
 have hoD := World.ownsRow.upB ho hd
 have HAD := Lib.hid (show Alters (fun b => b = r) w w.drew from Alters.of_below hd)
 have hrn : ¬ some r = vc.ownBlock := fun e => by have := (World.ownsRow.lt ho _ e.symm).1; omega
 have hrs : r < w.drew.heap.size := bx_lt hxD
 have hhD : h ≤ w.drew.heap.size := hh
 clear hx hw hrr ho
 go_enter Tryz.func105, Tryz.ntmps105
 refine wp_region_held_drew (S := fun W => W.cell? ⟨rr, 0, none⟩ = some (.pointer (some ⟨r, 0, none⟩))) (by kernel_rfl) hrd (fun hHeld => ?_)
 clear hd
 generalize w.drew = wD at *
 refine TK 0 ?_
 (try simp only [pS])
 refine TK 1 ?_
 (try simp only [pS])
 refine TK 3 ?_
 (try simp only [pS])
 refine wpAnyH_ready (rs := [2]) (by kernel_rfl) (by simp) ?_
 refine AC (fun K hK => ?_) AllReadyH.nil
 refine step_call_h rfl 91 _ _ #[.pointer (some ⟨r, 0, none⟩)] rfl rfl (enters_of Tryz.func91 (by kernel_rfl) rfl) (HN.out.mono ?_)
 rintro e w2 ⟨rfl, hR⟩
 obtain ⟨wv2, hx2, hw2, ha2⟩ := hR
 have hrr2 : w2.cell? ⟨rr, 0, none⟩ = some (.pointer (some ⟨r, 0, none⟩)) := (World.cell?_of_block (a := ⟨rr, 0, none⟩) (ha2.block rr hrl hne)).trans hrd
 have ho2 := World.ownsRow.altR hoD ha2 (fun b hb => by have hb : b = r := hb; rw [hb]; exact hrn)
 have ha02 := HAD.out.trans ha2
 have hb2 : Below w0.heap.size w0 w2 := hbD.trans ((ha2.below (Nat.le_of_lt hrs) (fun b hb => Nat.le_of_eq (Eq.symm hb))).mono hr)
 have HRE := Lib.hid (result_word r c0 c1 c2 c3 c4 c5 vc c7 c8 wv2 ws.tail w0 w2 hx2 hw2 (by rw [List.length_tail]; omega) hR0 hr hb2)
 refine ⟨_, rfl, hK.out _ _ hrr2 (fun _ => ?_)⟩
 clear hK K
 (try simp only [pS])
 refine wpAnyH_ready (rs := [4]) (by kernel_rfl) (by simp) ?_
 refine AC (fun K hK => ?_) AllReadyH.nil
 refine step_call_h rfl 103 _ _ #[.pointer (some ⟨r, 0, none⟩)] rfl rfl (enters_of Tryz.func103 (by kernel_rfl) rfl) (HRE.out.mono ?_)
 rintro e w3 ⟨rfl, hR⟩
 obtain ⟨wv3, hx3, hw3, ha3⟩ := hR
 have hrr3 : w3.cell? ⟨rr, 0, none⟩ = some (.pointer (some ⟨r, 0, none⟩)) := (World.cell?_of_block (a := ⟨rr, 0, none⟩) (ha3.block rr (World.block_lt_of_cell? _ _ hrr2) hne)).trans hrr2
 have ho3 := World.ownsRow.altR ho2 ha3 (fun b hb => by have hb : b = r := hb; rw [hb]; exact hrn)
 have ha03 := ha02.trans ha3
 have HAC := Lib.hid (addClause_any r h k c0 c1 c2 c3 c4 c5 vc c7 c8 wv3 xs 3 0 (numS (headW ws)) (resN (headW ws.tail)) w3 hx3 ho3 hrh hk (Nat.le_trans hh ha03.size))
 refine ⟨_, rfl, hK.out _ _ hrr3 (fun _ => ?_)⟩
 clear hK K
 (try simp only [pS])
 have hT := hrr3
 refine TK 5 ?_
 (try simp only [pS])
 clear hT
 refine wpAnyH_ready (rs := [6]) (by kernel_rfl) (by simp) ?_
 refine AC (fun K hK => ?_) AllReadyH.nil
 refine step_call_h rfl 101 _ _ #[.pointer (some ⟨r, 0, none⟩), .agg #[.int .i64 3, .int .i64 0, .int .i64 (numS (headW ws)), .int .i64 (resN (headW ws.tail))]] rfl rfl (enters_of Tryz.func101 (by kernel_rfl) rfl) (HAC.out.mono ?_)
 rintro e w4 ⟨⟨vq, rfl⟩, g, cap, had⟩
 have hrr4 : w4.cell? ⟨rr, 0, none⟩ = some (.pointer (some ⟨r, 0, none⟩)) := (World.cell?_of_block (a := ⟨rr, 0, none⟩) (had.alt.block rr (World.block_lt_of_cell? _ _ hrr3) (fun hb => by
   rcases hb with hb | hb
   · exact hne hb
   · exact hro hb))).trans hrr3
 refine ⟨_, rfl, hK.out _ _ hrr4 (fun _ => ?_)⟩
 clear hK K
 (try simp only [pS])
 refine wpAnyH_done (by kernel_rfl) ?_ _
 have HR := Lib.hid (And.intro (had.from ha03) (had.words hx3 ho3 (by decide) hw3))
 clear had hrr4
 go_wp2
 go_end0
 exact ⟨⟨_, rfl⟩, g, cap, _, HR.out⟩
end Go.Proofs.YtbmcngoeinginaaGreatDoor
namespace Go.Proofs.YtbmcngoeinginaaGreatDoor
open Go Go.RowKit Go.Lib
set_option maxRecDepth 100000 in
set_option maxHeartbeats 2000000 in
theorem line8_any (r rr h k : Nat) (c0 c1 c2 c4 c5 vc c7 c8 wv : Value) (ks : List KindD) (ak : Option Addr) (ck : Nat) (xs : List Value) (ws : List (List UInt8)) (w0 w : World) (hrr : w.cell? ⟨rr, 0, none⟩ = some (.pointer (some ⟨r, 0, none⟩))) (hne : rr ≠ r) (hx : RdBox r c0 c1 c2 (.slice ak ks.length ck) c4 c5 vc c7 c8 wv w) (hw : WordsIn w wv ws) (ho : w.ownsRow h 70 4 vc k xs) (hrh : r < h) (hk : k < 1000) (hh : h ≤ w.heap.size) (hro : ¬ some rr = vc.ownBlock) (hl : ws.length ≤ 1000) (hR0 : ResIn w0) (hkl : ks.length ≤ maxLen) (hKI : ∀ W, Alters (fun b => b = r) w W → KindsIn W.heap.size W ak ks) (hr : w0.heap.size ≤ r) (hb : Below w0.heap.size w0 w) :
   Calls Tryz.prog 100 #[.pointer (some ⟨rr, 0, none⟩)] w fun e w' => (∃ v, e = .returned v) ∧ ∃ g cap wv2, Added r h 70 4 k vc xs [.int .i64 1, .int .i64 (findD ks (headW ws)), .int .i64 0, .int .i64 (resN (headW ws.tail))] c0 c1 c2 (.slice ak ks.length ck) c4 c5 (.slice (some ⟨g, 0, none⟩) (k + 1) cap) c7 c8 wv2 g cap w w' ∧ WordsIn w' wv2 ws.tail.tail := by
 have hd : Below w.heap.size w w.drew := (Below.refl _ w).drew
 have hxD : RdBox r c0 c1 c2 (.slice ak ks.length ck) c4 c5 vc c7 c8 wv w.drew := hx
 have hbD := below_step hb hd
 have HN := Lib.hid (kind_word r c0 c1 c2 c4 c5 vc c7 c8 wv ks ak ck ws w.drew hxD (hw.up hd) hl hkl (fun W ha => hKI W ((Alters.of_below hd).trans ha)))
 have hrd : w.drew.cell? ⟨rr, 0, none⟩ = some (.pointer (some ⟨r, 0, none⟩)) := hrr
 have hrl := World.block_lt_of_cell? _ _ hrd
 have hoD := World.ownsRow.upB ho hd
 have HAD := Lib.hid (show Alters (fun b => b = r) w w.drew from Alters.of_below hd)
 have hrn : ¬ some r = vc.ownBlock := fun e => by have := (World.ownsRow.lt ho _ e.symm).1; omega
 have hrs : r < w.drew.heap.size := bx_lt hxD
 have hhD : h ≤ w.drew.heap.size := hh
 clear hx hw hrr ho
 go_enter Tryz.func100, Tryz.ntmps100
 refine wp_region_held_drew (S := fun W => W.cell? ⟨rr, 0, none⟩ = some (.pointer (some ⟨r, 0, none⟩))) (by kernel_rfl) hrd (fun hHeld => ?_)
 clear hd
 generalize w.drew = wD at *
 refine TK 0 ?_
 (try simp only [pS])
 refine TK 1 ?_
 (try simp only [pS])
 refine TK 3 ?_
 (try simp only [pS])
 refine wpAnyH_ready (rs := [2]) (by kernel_rfl) (by simp) ?_
 refine AC (fun K hK => ?_) AllReadyH.nil
 refine step_call_h rfl 102 _ _ #[.pointer (some ⟨r, 0, none⟩)] rfl rfl (enters_of Tryz.func102 (by kernel_rfl) rfl) (HN.out.mono ?_)
 rintro e w2 ⟨rfl, hR⟩
 obtain ⟨wv2, hx2, hw2, ha2⟩ := hR
 have hrr2 : w2.cell? ⟨rr, 0, none⟩ = some (.pointer (some ⟨r, 0, none⟩)) := (World.cell?_of_block (a := ⟨rr, 0, none⟩) (ha2.block rr (World.block_lt_of_cell? _ _ hrd) hne)).trans hrd
 have ho2 := World.ownsRow.altR hoD ha2 (fun b hb => by have hb : b = r := hb; rw [hb]; exact hrn)
 have ha02 := HAD.out.trans ha2
 have hb2 : Below w0.heap.size w0 w2 := hbD.trans ((ha2.below (Nat.le_of_lt hrs) (fun b hb => Nat.le_of_eq (Eq.symm hb))).mono hr)
 have hrs2 : r < w2.heap.size := bx_lt hx2
 have HQ2 := Lib.hid (result_word r c0 c1 c2 (.slice ak ks.length ck) c4 c5 vc c7 c8 wv2 ws.tail w0 w2 hx2 hw2 (by simp only [List.length_tail]; omega) hR0 hr hb2)
 refine ⟨_, rfl, hK.out _ _ hrr2 (fun _ => ?_)⟩
 clear hK K
 (try simp only [pS])
 refine wpAnyH_ready (rs := [4]) (by kernel_rfl) (by simp) ?_
 refine AC (fun K hK => ?_) AllReadyH.nil
 refine step_call_h rfl 103 _ _ #[.pointer (some ⟨r, 0, none⟩)] rfl rfl (enters_of Tryz.func103 (by kernel_rfl) rfl) (HQ2.out.mono ?_)
 rintro e w3 ⟨rfl, hR⟩
 obtain ⟨wv3, hx3, hw3, ha3⟩ := hR
 have hrr3 : w3.cell? ⟨rr, 0, none⟩ = some (.pointer (some ⟨r, 0, none⟩)) := (World.cell?_of_block (a := ⟨rr, 0, none⟩) (ha3.block rr (World.block_lt_of_cell? _ _ hrr2) hne)).trans hrr2
 have ho3 := World.ownsRow.altR ho2 ha3 (fun b hb => by have hb : b = r := hb; rw [hb]; exact hrn)
 have ha03 := ha02.trans ha3
 have hb3 : Below w0.heap.size w0 w3 := hb2.trans ((ha3.below (Nat.le_of_lt hrs2) (fun b hb => Nat.le_of_eq (Eq.symm hb))).mono hr)
 have hrs3 : r < w3.heap.size := bx_lt hx3
 have HAC := Lib.hid (addClause_any r h k c0 c1 c2 (.slice ak ks.length ck) c4 c5 vc c7 c8 wv3 xs 1 (findD ks (headW ws)) 0 (resN (headW ws.tail)) w3 hx3 ho3 hrh hk (Nat.le_trans hh ha03.size))
 refine ⟨_, rfl, hK.out _ _ hrr3 (fun _ => ?_)⟩
 clear hK K
 (try simp only [pS])
 have hT := hrr3
 refine TK 5 ?_
 (try simp only [pS])
 clear hT
 refine wpAnyH_ready (rs := [6]) (by kernel_rfl) (by simp) ?_
 refine AC (fun K hK => ?_) AllReadyH.nil
 refine step_call_h rfl 101 _ _ #[.pointer (some ⟨r, 0, none⟩), .agg #[.int .i64 1, .int .i64 (findD ks (headW ws)), .int .i64 0, .int .i64 (resN (headW ws.tail))]] rfl rfl (enters_of Tryz.func101 (by kernel_rfl) rfl) (HAC.out.mono ?_)
 rintro e wZ ⟨⟨vq, rfl⟩, g, cap, had⟩
 have hrrZ : wZ.cell? ⟨rr, 0, none⟩ = some (.pointer (some ⟨r, 0, none⟩)) := (World.cell?_of_block (a := ⟨rr, 0, none⟩) (had.alt.block rr (World.block_lt_of_cell? _ _ hrr3) (fun hb => by
   rcases hb with hb | hb
   · exact hne hb
   · exact hro hb))).trans hrr3
 refine ⟨_, rfl, hK.out _ _ hrrZ (fun _ => ?_)⟩
 clear hK K
 (try simp only [pS])
 refine wpAnyH_done (by kernel_rfl) ?_ _
 have HR := Lib.hid (And.intro (had.from ha03) (had.words hx3 ho3 (by decide) hw3))
 clear had hrrZ
 go_wp2
 go_end0
 exact ⟨⟨_, rfl⟩, g, cap, _, HR.out⟩
set_option maxRecDepth 100000 in
set_option maxHeartbeats 2000000 in
theorem line9_any (r rr h k : Nat) (c0 c1 c2 c4 c5 vc c7 c8 wv : Value) (ks : List KindD) (ak : Option Addr) (ck : Nat) (xs : List Value) (ws : List (List UInt8)) (w0 w : World) (hrr : w.cell? ⟨rr, 0, none⟩ = some (.pointer (some ⟨r, 0, none⟩))) (hne : rr ≠ r) (hx : RdBox r c0 c1 c2 (.slice ak ks.length ck) c4 c5 vc c7 c8 wv w) (hw : WordsIn w wv ws) (ho : w.ownsRow h 70 4 vc k xs) (hrh : r < h) (hk : k < 1000) (hh : h ≤ w.heap.size) (hro : ¬ some rr = vc.ownBlock) (hl : ws.length ≤ 1000) (hwl : ∀ x ∈ ws, x.length ≤ 1000000) (hE : LibIn w0) (hR0 : ResIn w0) (hkl : ks.length ≤ maxLen) (hKI : ∀ W, Alters (fun b => b = r) w W → KindsIn W.heap.size W ak ks) (hr : w0.heap.size ≤ r) (hb : Below w0.heap.size w0 w) :
   Calls Tryz.prog 104 #[.pointer (some ⟨rr, 0, none⟩)] w fun e w' => (∃ v, e = .returned v) ∧ ∃ g cap wv2, Added r h 70 4 k vc xs [.int .i64 2, .int .i64 (findD ks (headW ws)), .int .i64 (numS (headW ws.tail)), .int .i64 (resN (headW ws.tail.tail))] c0 c1 c2 (.slice ak ks.length ck) c4 c5 (.slice (some ⟨g, 0, none⟩) (k + 1) cap) c7 c8 wv2 g cap w w' ∧ WordsIn w' wv2 ws.tail.tail.tail := by
 have hd : Below w.heap.size w w.drew := (Below.refl _ w).drew
 have hxD : RdBox r c0 c1 c2 (.slice ak ks.length ck) c4 c5 vc c7 c8 wv w.drew := hx
 have hbD := below_step hb hd
 have HN := Lib.hid (kind_word r c0 c1 c2 c4 c5 vc c7 c8 wv ks ak ck ws w.drew hxD (hw.up hd) hl hkl (fun W ha => hKI W ((Alters.of_below hd).trans ha)))
 have hrd : w.drew.cell? ⟨rr, 0, none⟩ = some (.pointer (some ⟨r, 0, none⟩)) := hrr
 have hrl := World.block_lt_of_cell? _ _ hrd
 have hoD := World.ownsRow.upB ho hd
 have HAD := Lib.hid (show Alters (fun b => b = r) w w.drew from Alters.of_below hd)
 have hrn : ¬ some r = vc.ownBlock := fun e => by have := (World.ownsRow.lt ho _ e.symm).1; omega
 have hrs : r < w.drew.heap.size := bx_lt hxD
 have hhD : h ≤ w.drew.heap.size := hh
 clear hx hw hrr ho
 go_enter Tryz.func104, Tryz.ntmps104
 refine wp_region_held_drew (S := fun W => W.cell? ⟨rr, 0, none⟩ = some (.pointer (some ⟨r, 0, none⟩))) (by kernel_rfl) hrd (fun hHeld => ?_)
 clear hd
 generalize w.drew = wD at *
 refine TK 0 ?_
 (try simp only [pS])
 refine TK 1 ?_
 (try simp only [pS])
 refine TK 3 ?_
 (try simp only [pS])
 refine TK 5 ?_
 (try simp only [pS])
 refine wpAnyH_ready (rs := [2]) (by kernel_rfl) (by simp) ?_
 refine AC (fun K hK => ?_) AllReadyH.nil
 refine step_call_h rfl 102 _ _ #[.pointer (some ⟨r, 0, none⟩)] rfl rfl (enters_of Tryz.func102 (by kernel_rfl) rfl) (HN.out.mono ?_)
 rintro e w2 ⟨rfl, hR⟩
 obtain ⟨wv2, hx2, hw2, ha2⟩ := hR
 have hrr2 : w2.cell? ⟨rr, 0, none⟩ = some (.pointer (some ⟨r, 0, none⟩)) := (World.cell?_of_block (a := ⟨rr, 0, none⟩) (ha2.block rr (World.block_lt_of_cell? _ _ hrd) hne)).trans hrd
 have ho2 := World.ownsRow.altR hoD ha2 (fun b hb => by have hb : b = r := hb; rw [hb]; exact hrn)
 have ha02 := HAD.out.trans ha2
 have hb2 : Below w0.heap.size w0 w2 := hbD.trans ((ha2.below (Nat.le_of_lt hrs) (fun b hb => Nat.le_of_eq (Eq.symm hb))).mono hr)
 have hrs2 : r < w2.heap.size := bx_lt hx2
 have HQ2 := Lib.hid (number_word r c0 c1 c2 (.slice ak ks.length ck) c4 c5 vc c7 c8 wv2 ws.tail w0 w2 hx2 hw2 (by simp only [List.length_tail]; omega) (tail_cells hwl) hE hr hb2)
 refine ⟨_, rfl, hK.out _ _ hrr2 (fun _ => ?_)⟩
 clear hK K
 (try simp only [pS])
 refine wpAnyH_ready (rs := [4]) (by kernel_rfl) (by simp) ?_
 refine AC (fun K hK => ?_) AllReadyH.nil
 refine step_call_h rfl 91 _ _ #[.pointer (some ⟨r, 0, none⟩)] rfl rfl (enters_of Tryz.func91 (by kernel_rfl) rfl) (HQ2.out.mono ?_)
 rintro e w3 ⟨rfl, hR⟩
 obtain ⟨wv3, hx3, hw3, ha3⟩ := hR
 have hrr3 : w3.cell? ⟨rr, 0, none⟩ = some (.pointer (some ⟨r, 0, none⟩)) := (World.cell?_of_block (a := ⟨rr, 0, none⟩) (ha3.block rr (World.block_lt_of_cell? _ _ hrr2) hne)).trans hrr2
 have ho3 := World.ownsRow.altR ho2 ha3 (fun b hb => by have hb : b = r := hb; rw [hb]; exact hrn)
 have ha03 := ha02.trans ha3
 have hb3 : Below w0.heap.size w0 w3 := hb2.trans ((ha3.below (Nat.le_of_lt hrs2) (fun b hb => Nat.le_of_eq (Eq.symm hb))).mono hr)
 have hrs3 : r < w3.heap.size := bx_lt hx3
 have HQ3 := Lib.hid (result_word r c0 c1 c2 (.slice ak ks.length ck) c4 c5 vc c7 c8 wv3 ws.tail.tail w0 w3 hx3 hw3 (by simp only [List.length_tail]; omega) hR0 hr hb3)
 refine ⟨_, rfl, hK.out _ _ hrr3 (fun _ => ?_)⟩
 clear hK K
 (try simp only [pS])
 refine wpAnyH_ready (rs := [6]) (by kernel_rfl) (by simp) ?_
 refine AC (fun K hK => ?_) AllReadyH.nil
 refine step_call_h rfl 103 _ _ #[.pointer (some ⟨r, 0, none⟩)] rfl rfl (enters_of Tryz.func103 (by kernel_rfl) rfl) (HQ3.out.mono ?_)
 rintro e w4 ⟨rfl, hR⟩
 obtain ⟨wv4, hx4, hw4, ha4⟩ := hR
 have hrr4 : w4.cell? ⟨rr, 0, none⟩ = some (.pointer (some ⟨r, 0, none⟩)) := (World.cell?_of_block (a := ⟨rr, 0, none⟩) (ha4.block rr (World.block_lt_of_cell? _ _ hrr3) hne)).trans hrr3
 have ho4 := World.ownsRow.altR ho3 ha4 (fun b hb => by have hb : b = r := hb; rw [hb]; exact hrn)
 have ha04 := ha03.trans ha4
 have hb4 : Below w0.heap.size w0 w4 := hb3.trans ((ha4.below (Nat.le_of_lt hrs3) (fun b hb => Nat.le_of_eq (Eq.symm hb))).mono hr)
 have hrs4 : r < w4.heap.size := bx_lt hx4
 have HAC := Lib.hid (addClause_any r h k c0 c1 c2 (.slice ak ks.length ck) c4 c5 vc c7 c8 wv4 xs 2 (findD ks (headW ws)) (numS (headW ws.tail)) (resN (headW ws.tail.tail)) w4 hx4 ho4 hrh hk (Nat.le_trans hh ha04.size))
 refine ⟨_, rfl, hK.out _ _ hrr4 (fun _ => ?_)⟩
 clear hK K
 (try simp only [pS])
 have hT := hrr4
 refine TK 7 ?_
 (try simp only [pS])
 clear hT
 refine wpAnyH_ready (rs := [8]) (by kernel_rfl) (by simp) ?_
 refine AC (fun K hK => ?_) AllReadyH.nil
 refine step_call_h rfl 101 _ _ #[.pointer (some ⟨r, 0, none⟩), .agg #[.int .i64 2, .int .i64 (findD ks (headW ws)), .int .i64 (numS (headW ws.tail)), .int .i64 (resN (headW ws.tail.tail))]] rfl rfl (enters_of Tryz.func101 (by kernel_rfl) rfl) (HAC.out.mono ?_)
 rintro e wZ ⟨⟨vq, rfl⟩, g, cap, had⟩
 have hrrZ : wZ.cell? ⟨rr, 0, none⟩ = some (.pointer (some ⟨r, 0, none⟩)) := (World.cell?_of_block (a := ⟨rr, 0, none⟩) (had.alt.block rr (World.block_lt_of_cell? _ _ hrr4) (fun hb => by
   rcases hb with hb | hb
   · exact hne hb
   · exact hro hb))).trans hrr4
 refine ⟨_, rfl, hK.out _ _ hrrZ (fun _ => ?_)⟩
 clear hK K
 (try simp only [pS])
 refine wpAnyH_done (by kernel_rfl) ?_ _
 have HR := Lib.hid (And.intro (had.from ha04) (had.words hx4 ho4 (by decide) hw4))
 clear had hrrZ
 go_wp2
 go_end0
 exact ⟨⟨_, rfl⟩, g, cap, _, HR.out⟩
end Go.Proofs.YtbmcngoeinginaaGreatDoor
namespace Go.Proofs.YtbmcngoeinginaaGreatDoor
open Go Go.RowKit Go.Lib
theorem next_full (r : Nat) (c0 c1 c2 c3 c4 c5 c6 c7 c8 wv : Value) (ws : List (List UInt8)) (w : World) (hx : RdBox r c0 c1 c2 c3 c4 c5 c6 c7 c8 wv w) (hw : WordsIn w wv ws) (hl : ws.length ≤ 1000) :
   Calls Tryz.prog 65 #[.pointer (some ⟨r, 0, none⟩)] w fun e w' => e = .returned (.string ⟨(headW ws).toArray⟩) ∧ Rest r c0 c1 c2 c3 c4 c5 c6 c7 c8 ws.tail w w' := next_word r c0 c1 c2 c3 c4 c5 c6 c7 c8 wv ws w hx hw hl
theorem fin_kind {r h k g cap : Nat} {c0 c1 c2 vk c4 c5 c6 c7 c8 wv2 : Value} {xs : List Value} (t : ByteArray) (kp : Bool) {w w2 w7 : World} (_hhw : h ≤ w.heap.size) (ha : Alters (fun b => b = r) w w2) (hx2 : RdBox r c0 c1 c2 vk c4 c5 c6 c7 c8 wv2 w2) (ho2 : w2.ownsRow h 63 3 vk k xs) (hrh : r < h)
   (hown : w7.ownsRow h 63 3 (.slice (some ⟨g, 0, none⟩) (k + 1) cap) (k + 1) (xs ++ [.string t, .slice none 0 0, .bool kp])) (hg : (w2.alloc (.cells #[.string t, .slice none 0 0, .bool kp] 63)).grownBy w7 vk.ownBlock) (hat : vk.ownBlock = some g ∨ g = (w2.alloc (.cells #[.string t, .slice none 0 0, .bool kp] 63)).heap.size) :
   Added r h 63 3 k vk xs [.string t, .slice none 0 0, .bool kp] c0 c1 c2 (.slice (some ⟨g, 0, none⟩) (k + 1) cap) c4 c5 c6 c7 c8 wv2 g cap w (w7.setCell ⟨r, 3, none⟩ (.slice (some ⟨g, 0, none⟩) (k + 1) cap)) := by
 have hal := alters_cell w7 r 3 (.slice (some ⟨g, 0, none⟩) (k + 1) cap)
 have hba := below_alloc (Below.refl _ w2) (.cells #[.string t, .slice none 0 0, .bool kp] 63)
 have hrn : ¬ some r = vk.ownBlock := fun e => by have := (World.ownsRow.lt ho2 _ e.symm).1; omega
 have hx7 : w7.heap[r]? = _ := not_own_pushed ho2 hx2 hrn hg
 refine ⟨?_, ?_, ?_, ?_⟩
 · unfold RdBox
   rw [bx_set_ hx7 3]; rfl
 · exact World.ownsRow.altR hown hal (fun b hb hv => by have hb : b = r := hb; have := (World.ownsRow.lt hown b hv.symm).1; omega)
 · exact (((ha.mono (fun _ _ h => .inl h)).trans (Alters.of_below hba)).trans ((Alters.of_grown hg).mono (fun _ _ h => .inr h))).trans (hal.mono (fun _ _ h => .inl h))
 · rcases hat with e | e
   · exact .inl e
   · exact .inr (by rw [e]; exact Nat.le_trans ha.size hba.size)
set_option maxRecDepth 100000 in
set_option maxHeartbeats 2000000 in
theorem line4_any (r rr h k : Nat) (c0 c1 c2 vk c4 c5 c6 c7 c8 wv : Value) (xs : List Value) (ws : List (List UInt8)) (w : World) (hrr : w.cell? ⟨rr, 0, none⟩ = some (.pointer (some ⟨r, 0, none⟩))) (hne : rr ≠ r) (hx : RdBox r c0 c1 c2 vk c4 c5 c6 c7 c8 wv w) (hw : WordsIn w wv ws) (ho : w.ownsRow h 63 3 vk k xs) (hrh : r < h) (hk : k < 1000) (hh : h ≤ w.heap.size) (hro : ¬ some rr = vk.ownBlock) (hl : ws.length ≤ 1000) :
   Calls Tryz.prog 95 #[.pointer (some ⟨rr, 0, none⟩)] w fun e w' => (∃ v, e = .returned v) ∧ ∃ g cap wv2, Added r h 63 3 k vk xs [.string ⟨(headW ws).toArray⟩, .slice none 0 0, .bool (headW ws.tail == [107, 101, 101, 112])] c0 c1 c2 (.slice (some ⟨g, 0, none⟩) (k + 1) cap) c4 c5 c6 c7 c8 wv2 g cap w w' := by
 have hd : Below w.heap.size w w.drew := (Below.refl _ w).drew
 have hx1 : RdBox r c0 c1 c2 vk c4 c5 c6 c7 c8 wv w.drew := hx
 have HN := Lib.hid (next_full r c0 c1 c2 vk c4 c5 c6 c7 c8 wv ws w.drew hx1 (hw.up hd) hl)
 have hrd : w.drew.cell? ⟨rr, 0, none⟩ = some (.pointer (some ⟨r, 0, none⟩)) := hrr
 have hrl := World.block_lt_of_cell? _ _ hrd
 have hoD := World.ownsRow.upB ho hd
 have HAD := Lib.hid (show Alters (fun b => b = r) w w.drew from Alters.of_below hd)
 have hrn : ¬ some r = vk.ownBlock := fun e => by have := (World.ownsRow.lt ho _ e.symm).1; omega
 clear hx hw hrr ho
 go_enter Tryz.func95, Tryz.ntmps95
 refine wp_region_held_drew (S := fun W => W.cell? ⟨rr, 0, none⟩ = some (.pointer (some ⟨r, 0, none⟩))) (by kernel_rfl) hrd (fun hHeld => ?_)
 clear hd
 generalize w.drew = wD at *
 have q1 := bx_cell hx1 3 rfl
 refine TK 0 ?_
 (try simp only [pS])
 refine TK 1 ?_
 (try simp only [pS])
 refine TK 2 ?_
 (try simp only [pS])
 refine TK 3 ?_
 (try simp only [pS])
 refine TK 4 ?_
 (try simp only [pS])
 refine TK 6 ?_
 (try simp only [pS])
 refine TK 8 ?_
 (try simp only [pS])
 refine wpAnyH_ready (rs := [5, 7]) (by kernel_rfl) (by simp) ?_
 refine AC (fun K hK => ?_) (AC (fun K hK => ?_) AllReadyH.nil)
 · skip
   go_simp;refine hK.out _ _ hrd (fun _ => ?_);clear hK K;(try simp only [pS]);refine wpAnyH_ready (rs := [7]) (by kernel_rfl) (by simp) ?_;refine AC (fun K hK => ?_) AllReadyH.nil;refine step_call_h rfl 65 _ _ #[.pointer (some ⟨r, 0, none⟩)] rfl rfl (enters_of Tryz.func65 (by kernel_rfl) rfl) (HN.out.mono ?_);rintro e w2 ⟨rfl, hR⟩;obtain ⟨wv2, hx2, hw2, ha2⟩ := hR;have hrr2 : w2.cell? ⟨rr, 0, none⟩ = some (.pointer (some ⟨r, 0, none⟩)) := (World.cell?_of_block (a := ⟨rr, 0, none⟩) (ha2.block rr (World.block_lt_of_cell? _ _ hrd) hne)).trans hrd
   have ho2 := World.ownsRow.altR hoD ha2 (fun b hb => by have hb : b = r := hb; rw [hb]; exact hrn)
   have ha02 := HAD.out.trans ha2;have q2 := bx_cell hx2 3 rfl
   have HQ := Lib.hid (next_full r c0 c1 c2 vk c4 c5 c6 c7 c8 wv2 ws.tail w2 hx2 hw2 (by rw [List.length_tail]; omega))
   refine ⟨_, rfl, hK.out _ _ hrr2 (fun _ => ?_)⟩;clear hK K;(try simp only [pS]);refine wpAnyH_ready (rs := [9]) (by kernel_rfl) (by simp) ?_;refine AC (fun K hK => ?_) AllReadyH.nil;refine step_call_h rfl 65 _ _ #[.pointer (some ⟨r, 0, none⟩)] rfl rfl (enters_of Tryz.func65 (by kernel_rfl) rfl) (HQ.out.mono ?_);rintro e w3 ⟨rfl, hR⟩;obtain ⟨wv3, hx3, hw3, ha3⟩ := hR;have hrr3 : w3.cell? ⟨rr, 0, none⟩ = some (.pointer (some ⟨r, 0, none⟩)) := (World.cell?_of_block (a := ⟨rr, 0, none⟩) (ha3.block rr (World.block_lt_of_cell? _ _ hrr2) hne)).trans hrr2
   have ho3 := World.ownsRow.altR ho2 ha3 (fun b hb => by have hb : b = r := hb; rw [hb]; exact hrn)
   have ha03 := ha02.trans ha3;have q3 := bx_cell hx3 3 rfl;have hba := below_alloc (Below.refl _ w3) (.cells #[.string ⟨(headW ws).toArray⟩, .slice none 0 0, .bool (headW ws.tail == [107, 101, 101, 112])] 63);have hrrA := cell_keep hba hrr3;have qA := cell_keep hba q3;have HT3 := hrr3;refine ⟨_, rfl, hK.out _ _ hrr3 (fun _ => ?_)⟩;clear hK K;(try simp only [pS]);have hTT := hrr3;refine TK 10 ?_;(try simp only [pS]);refine TK 11 ?_;(try simp only [pS]);clear hTT;refine wpAnyH_ready (rs := [12]) (by kernel_rfl) (by simp) ?_;refine AC (fun K hK => ?_) AllReadyH.nil;go_simp;refine hK.out _ _ hrrA (fun _ => ?_);clear hK K;(try simp only [pS]);refine wpAnyH_ready (rs := [13]) (by kernel_rfl) (by simp) ?_;refine AC (fun K hK => ?_) AllReadyH.nil
   refine step_pushC rfl 35 63 (.agg #[.string ⟨#[]⟩, .slice none 0 0, .bool false]) 3 48 Tryz.underlying35 info_kindC rfl (by decide) (by decide) (.tmp 6) (.tmp 13) rfl h vk k xs rfl (World.ownsRow.upB ho3 hba) (by omega) (Nat.le_trans hh (Nat.le_trans ha03.size hba.size)) w3.heap.size 1 [.string ⟨(headW ws).toArray⟩, .slice none 0 0, .bool (headW ws.tail == [107, 101, 101, 112])] rfl rfl (World.alloc_heap_new _ _) (by simp [Value.oneCell']) (fun g cap w7 hown hg hat => ?_);have hrr7 : w7.cell? ⟨rr, 0, none⟩ = some (.pointer (some ⟨r, 0, none⟩)) := (World.cell?_of_block (a := ⟨rr, 0, none⟩) (hg.block rr (Nat.lt_of_lt_of_le (World.block_lt_of_cell? _ _ hrr3) hba.size) hro)).trans hrrA;have hx7 : w7.heap[r]? = _ := not_own_pushed ho3 hx3 hrn hg;refine hK.out _ _ hrr7 (fun _ => ?_);clear hK K;(try simp only [pS]);have hT := hrr7;refine TK 14 ?_;(try simp only [pS]);refine TK 15 ?_
   (try simp only [pS]);refine TK 16 ?_;(try simp only [pS]);clear hT;have q7 := bx_cell hx7 3 rfl;have f7 := bx_frozen hx7 3;refine wpAnyH_ready (rs := [17]) (by kernel_rfl) (by simp) ?_;refine AC (fun K hK => ?_) AllReadyH.nil;go_simp
   refine hK.out _ _ ((World.cell?_setCell_far _ _ _ _ (by simp; omega)).trans hrr7) (fun _ => ?_)
   clear hK K;refine wpAnyH_done (by kernel_rfl) ?_ _;have HR := Lib.hid (fin_kind _ _ hh ha03 hx3 ho3 hrh hown hg hat);clear hown hg hat hx7 q7 f7 hrr7;go_wp2;go_end0;exact ⟨⟨_, rfl⟩, g, cap, _, HR.out⟩
 · skip
   refine step_call_h rfl 65 _ _ #[.pointer (some ⟨r, 0, none⟩)] rfl rfl (enters_of Tryz.func65 (by kernel_rfl) rfl) (HN.out.mono ?_);rintro e w2 ⟨rfl, hR⟩;obtain ⟨wv2, hx2, hw2, ha2⟩ := hR;have hrr2 : w2.cell? ⟨rr, 0, none⟩ = some (.pointer (some ⟨r, 0, none⟩)) := (World.cell?_of_block (a := ⟨rr, 0, none⟩) (ha2.block rr (World.block_lt_of_cell? _ _ hrd) hne)).trans hrd
   have ho2 := World.ownsRow.altR hoD ha2 (fun b hb => by have hb : b = r := hb; rw [hb]; exact hrn)
   have ha02 := HAD.out.trans ha2;have q2 := bx_cell hx2 3 rfl
   have HQ := Lib.hid (next_full r c0 c1 c2 vk c4 c5 c6 c7 c8 wv2 ws.tail w2 hx2 hw2 (by rw [List.length_tail]; omega))
   refine ⟨_, rfl, hK.out _ _ hrr2 (fun _ => ?_)⟩;clear hK K;(try simp only [pS]);refine wpAnyH_ready (rs := [5, 9]) (by kernel_rfl) (by simp) ?_;refine AC (fun K hK => ?_) (AC (fun K hK => ?_) AllReadyH.nil)
   · skip
     go_simp;refine hK.out _ _ hrr2 (fun _ => ?_);clear hK K;(try simp only [pS]);refine wpAnyH_ready (rs := [9]) (by kernel_rfl) (by simp) ?_;refine AC (fun K hK => ?_) AllReadyH.nil;refine step_call_h rfl 65 _ _ #[.pointer (some ⟨r, 0, none⟩)] rfl rfl (enters_of Tryz.func65 (by kernel_rfl) rfl) (HQ.out.mono ?_);rintro e w3 ⟨rfl, hR⟩;obtain ⟨wv3, hx3, hw3, ha3⟩ := hR;have hrr3 : w3.cell? ⟨rr, 0, none⟩ = some (.pointer (some ⟨r, 0, none⟩)) := (World.cell?_of_block (a := ⟨rr, 0, none⟩) (ha3.block rr (World.block_lt_of_cell? _ _ hrr2) hne)).trans hrr2
     have ho3 := World.ownsRow.altR ho2 ha3 (fun b hb => by have hb : b = r := hb; rw [hb]; exact hrn)
     have ha03 := ha02.trans ha3;have q3 := bx_cell hx3 3 rfl;have hba := below_alloc (Below.refl _ w3) (.cells #[.string ⟨(headW ws).toArray⟩, .slice none 0 0, .bool (headW ws.tail == [107, 101, 101, 112])] 63);have hrrA := cell_keep hba hrr3;have qA := cell_keep hba q3;have HT3 := hrr3;refine ⟨_, rfl, hK.out _ _ hrr3 (fun _ => ?_)⟩;clear hK K;(try simp only [pS]);have hTT := hrr3;refine TK 10 ?_;(try simp only [pS]);refine TK 11 ?_;(try simp only [pS]);clear hTT;refine wpAnyH_ready (rs := [12]) (by kernel_rfl) (by simp) ?_;refine AC (fun K hK => ?_) AllReadyH.nil;go_simp;refine hK.out _ _ hrrA (fun _ => ?_);clear hK K;(try simp only [pS]);refine wpAnyH_ready (rs := [13]) (by kernel_rfl) (by simp) ?_;refine AC (fun K hK => ?_) AllReadyH.nil
     refine step_pushC rfl 35 63 (.agg #[.string ⟨#[]⟩, .slice none 0 0, .bool false]) 3 48 Tryz.underlying35 info_kindC rfl (by decide) (by decide) (.tmp 6) (.tmp 13) rfl h vk k xs rfl (World.ownsRow.upB ho3 hba) (by omega) (Nat.le_trans hh (Nat.le_trans ha03.size hba.size)) w3.heap.size 1 [.string ⟨(headW ws).toArray⟩, .slice none 0 0, .bool (headW ws.tail == [107, 101, 101, 112])] rfl rfl (World.alloc_heap_new _ _) (by simp [Value.oneCell']) (fun g cap w7 hown hg hat => ?_);have hrr7 : w7.cell? ⟨rr, 0, none⟩ = some (.pointer (some ⟨r, 0, none⟩)) := (World.cell?_of_block (a := ⟨rr, 0, none⟩) (hg.block rr (Nat.lt_of_lt_of_le (World.block_lt_of_cell? _ _ hrr3) hba.size) hro)).trans hrrA;have hx7 : w7.heap[r]? = _ := not_own_pushed ho3 hx3 hrn hg;refine hK.out _ _ hrr7 (fun _ => ?_);clear hK K;(try simp only [pS]);have hT := hrr7;refine TK 14 ?_;(try simp only [pS]);refine TK 15 ?_
     (try simp only [pS]);refine TK 16 ?_;(try simp only [pS]);clear hT;have q7 := bx_cell hx7 3 rfl;have f7 := bx_frozen hx7 3;refine wpAnyH_ready (rs := [17]) (by kernel_rfl) (by simp) ?_;refine AC (fun K hK => ?_) AllReadyH.nil;go_simp
     refine hK.out _ _ ((World.cell?_setCell_far _ _ _ _ (by simp; omega)).trans hrr7) (fun _ => ?_)
     clear hK K;refine wpAnyH_done (by kernel_rfl) ?_ _;have HR := Lib.hid (fin_kind _ _ hh ha03 hx3 ho3 hrh hown hg hat);clear hown hg hat hx7 q7 f7 hrr7;go_wp2;go_end0;exact ⟨⟨_, rfl⟩, g, cap, _, HR.out⟩
   · skip
     refine step_call_h rfl 65 _ _ #[.pointer (some ⟨r, 0, none⟩)] rfl rfl (enters_of Tryz.func65 (by kernel_rfl) rfl) (HQ.out.mono ?_);rintro e w3 ⟨rfl, hR⟩;obtain ⟨wv3, hx3, hw3, ha3⟩ := hR;have hrr3 : w3.cell? ⟨rr, 0, none⟩ = some (.pointer (some ⟨r, 0, none⟩)) := (World.cell?_of_block (a := ⟨rr, 0, none⟩) (ha3.block rr (World.block_lt_of_cell? _ _ hrr2) hne)).trans hrr2
     have ho3 := World.ownsRow.altR ho2 ha3 (fun b hb => by have hb : b = r := hb; rw [hb]; exact hrn)
     have ha03 := ha02.trans ha3;have q3 := bx_cell hx3 3 rfl;have hba := below_alloc (Below.refl _ w3) (.cells #[.string ⟨(headW ws).toArray⟩, .slice none 0 0, .bool (headW ws.tail == [107, 101, 101, 112])] 63);have hrrA := cell_keep hba hrr3;have qA := cell_keep hba q3;have HT3 := hrr3;refine ⟨_, rfl, hK.out _ _ hrr3 (fun _ => ?_)⟩;clear hK K;(try simp only [pS]);have hTT := hrr3;refine TK 10 ?_;(try simp only [pS]);refine TK 11 ?_;(try simp only [pS]);clear hTT;refine wpAnyH_ready (rs := [5, 12]) (by kernel_rfl) (by simp) ?_;refine AC (fun K hK => ?_) (AC (fun K hK => ?_) AllReadyH.nil)
     · skip
       go_simp;refine hK.out _ _ hrr3 (fun _ => ?_);clear hK K;(try simp only [pS]);refine wpAnyH_ready (rs := [12]) (by kernel_rfl) (by simp) ?_;refine AC (fun K hK => ?_) AllReadyH.nil;go_simp;refine hK.out _ _ hrrA (fun _ => ?_);clear hK K;(try simp only [pS]);refine wpAnyH_ready (rs := [13]) (by kernel_rfl) (by simp) ?_;refine AC (fun K hK => ?_) AllReadyH.nil;refine step_pushC rfl 35 63 (.agg #[.string ⟨#[]⟩, .slice none 0 0, .bool false]) 3 48 Tryz.underlying35 info_kindC rfl (by decide) (by decide) (.tmp 6) (.tmp 13) rfl h vk k xs rfl (World.ownsRow.upB ho3 hba) (by omega) (Nat.le_trans hh (Nat.le_trans ha03.size hba.size)) w3.heap.size 1 [.string ⟨(headW ws).toArray⟩, .slice none 0 0, .bool (headW ws.tail == [107, 101, 101, 112])] rfl rfl (World.alloc_heap_new _ _) (by simp [Value.oneCell']) (fun g cap w7 hown hg hat => ?_)
       have hrr7 : w7.cell? ⟨rr, 0, none⟩ = some (.pointer (some ⟨r, 0, none⟩)) := (World.cell?_of_block (a := ⟨rr, 0, none⟩) (hg.block rr (Nat.lt_of_lt_of_le (World.block_lt_of_cell? _ _ hrr3) hba.size) hro)).trans hrrA;have hx7 : w7.heap[r]? = _ := not_own_pushed ho3 hx3 hrn hg;refine hK.out _ _ hrr7 (fun _ => ?_);clear hK K;(try simp only [pS]);have hT := hrr7;refine TK 14 ?_;(try simp only [pS]);refine TK 15 ?_;(try simp only [pS]);refine TK 16 ?_;(try simp only [pS]);clear hT;have q7 := bx_cell hx7 3 rfl;have f7 := bx_frozen hx7 3;refine wpAnyH_ready (rs := [17]) (by kernel_rfl) (by simp) ?_;refine AC (fun K hK => ?_) AllReadyH.nil;go_simp
       refine hK.out _ _ ((World.cell?_setCell_far _ _ _ _ (by simp; omega)).trans hrr7) (fun _ => ?_)
       clear hK K;refine wpAnyH_done (by kernel_rfl) ?_ _;have HR := Lib.hid (fin_kind _ _ hh ha03 hx3 ho3 hrh hown hg hat);clear hown hg hat hx7 q7 f7 hrr7;go_wp2;go_end0;exact ⟨⟨_, rfl⟩, g, cap, _, HR.out⟩
     · skip
       go_simp;refine hK.out _ _ hrrA (fun _ => ?_);clear hK K;(try simp only [pS]);refine wpAnyH_ready (rs := [5]) (by kernel_rfl) (by simp) ?_;refine AC (fun K hK => ?_) AllReadyH.nil;go_simp;refine hK.out _ _ hrrA (fun _ => ?_);clear hK K;(try simp only [pS]);refine wpAnyH_ready (rs := [13]) (by kernel_rfl) (by simp) ?_;refine AC (fun K hK => ?_) AllReadyH.nil;refine step_pushC rfl 35 63 (.agg #[.string ⟨#[]⟩, .slice none 0 0, .bool false]) 3 48 Tryz.underlying35 info_kindC rfl (by decide) (by decide) (.tmp 6) (.tmp 13) rfl h vk k xs rfl (World.ownsRow.upB ho3 hba) (by omega) (Nat.le_trans hh (Nat.le_trans ha03.size hba.size)) w3.heap.size 1 [.string ⟨(headW ws).toArray⟩, .slice none 0 0, .bool (headW ws.tail == [107, 101, 101, 112])] rfl rfl (World.alloc_heap_new _ _) (by simp [Value.oneCell']) (fun g cap w7 hown hg hat => ?_)
       have hrr7 : w7.cell? ⟨rr, 0, none⟩ = some (.pointer (some ⟨r, 0, none⟩)) := (World.cell?_of_block (a := ⟨rr, 0, none⟩) (hg.block rr (Nat.lt_of_lt_of_le (World.block_lt_of_cell? _ _ hrr3) hba.size) hro)).trans hrrA;have hx7 : w7.heap[r]? = _ := not_own_pushed ho3 hx3 hrn hg;refine hK.out _ _ hrr7 (fun _ => ?_);clear hK K;(try simp only [pS]);have hT := hrr7;refine TK 14 ?_;(try simp only [pS]);refine TK 15 ?_;(try simp only [pS]);refine TK 16 ?_;(try simp only [pS]);clear hT;have q7 := bx_cell hx7 3 rfl;have f7 := bx_frozen hx7 3;refine wpAnyH_ready (rs := [17]) (by kernel_rfl) (by simp) ?_;refine AC (fun K hK => ?_) AllReadyH.nil;go_simp
       refine hK.out _ _ ((World.cell?_setCell_far _ _ _ _ (by simp; omega)).trans hrr7) (fun _ => ?_)
       clear hK K;refine wpAnyH_done (by kernel_rfl) ?_ _;have HR := Lib.hid (fin_kind _ _ hh ha03 hx3 ho3 hrh hown hg hat);clear hown hg hat hx7 q7 f7 hrr7;go_wp2;go_end0;exact ⟨⟨_, rfl⟩, g, cap, _, HR.out⟩
end Go.Proofs.YtbmcngoeinginaaGreatDoor
