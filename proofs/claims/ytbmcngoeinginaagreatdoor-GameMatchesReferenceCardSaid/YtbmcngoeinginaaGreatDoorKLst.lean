/-
 Of the reference: second, list.
-/
import Derived.Test.YtbmcngoeinginaaGreatDoorKNum
import Derived.Test.YtbmcngoeinginaaGreatDoorCLns
namespace Go.Proofs.YtbmcngoeinginaaGreatDoor
open Go Go.RowKit Go.Lib
theorem OwnStrs.words {n : Nat} {W : World} {v : Value} {l : List (List UInt8)} (h : OwnStrs n W v l) (hl : 1 ≤ l.length) : WordsIn W v l := by
 obtain ⟨g, c, rfl, _, hlt, hc, hcell⟩ := h.cells hl
 obtain ⟨cs, hcs⟩ := own_has_ h (show some g = (Value.slice (some ⟨g, 0, none⟩) l.length c).ownBlock from rfl)
 refine ⟨_, c, rfl, hc, .inr ⟨g, 0, cs, rfl, hcs, fun j hj => ?_⟩⟩
 have := hcell j hj
 unfold World.cell? at this
 simp only [hcs] at this
 simpa using this
theorem WordsIn.at_ {W : World} {wv : Value} {ws : List (List UInt8)} (h : WordsIn W wv ws) {j : Nat} (hj : j < ws.length) : ∃ b off c, wv = .slice (some ⟨b, off, none⟩) ws.length c ∧ ws.length ≤ c ∧ W.cell? ⟨b, off + j, none⟩ = some (.string ⟨(ws[j]'hj).toArray⟩) := by
 obtain ⟨a, c, rfl, hc, h⟩ := h
 rcases h with rfl | ⟨b, off, cs, rfl, hb, hcell⟩
 · simp at hj
 · exact ⟨b, off, c, rfl, hc, bx_cell hb (off + j) (hcell j hj)⟩
set_option maxRecDepth 100000 in
theorem rsecond_any (wv : Value) (ws : List (List UInt8)) (w : World) (hw : WordsIn w wv ws) (hl : ws.length ≤ 1000000) : Calls Tryz.prog 76 #[wv] w fun e w' => e = .returned (.string ⟨(secW ws).toArray⟩) ∧ w' = w := by
 unfold secW
 by_cases h : ws.length < 2
 · have t1 : decide ((ws.length : Int) < 2) = true := by rw [decide_eq_true_eq]; omega
   have HO : Hid (ws[1]?.getD [] = []) := Lib.hid (by rw [List.getElem?_eq_none (by omega)]; rfl)
   obtain ⟨a, c, rfl, hc, _⟩ := hw;rw [HO.out];clear h;go_enter Tryz.func76, Tryz.ntmps76;go_wp2
   go_ret
   exact ⟨by rfl, rfl⟩
 · have t1 : decide ((ws.length : Int) < 2) = false := by rw [decide_eq_false_iff_not]; omega
   obtain ⟨b, off, c, rfl, hc, hx⟩ := hw.at_ (show 1 < ws.length by omega)
   have HO : Hid (ws[1]?.getD [] = ws[1]'(by omega)) := Lib.hid (by rw [List.getElem?_eq_getElem (show 1 < ws.length by omega)]; rfl)
   rw [HO.out];generalize ws[1]'(by omega) = x at *
   have b3 : (1 : Int) < (ws.length : Int) := by omega
   clear h hw HO;go_enter Tryz.func76, Tryz.ntmps76;go_wp2
   go_ret
   exact ⟨by rfl, rfl⟩
set_option maxRecDepth 100000 in
set_option maxHeartbeats 2000000 in
theorem rlist_any (wv : Value) (ws : List (List UInt8)) (w : World) (hw : WordsIn w wv ws) (hl : ws.length ≤ 1900) (hwl : ∀ x ∈ ws, x.length ≤ 1000000) :
   Calls Tryz.prog 77 #[wv] w fun e w' => ∃ v, e = .returned v ∧ OwnInts w.heap.size w' v (ws.map numR) ∧ Below w.heap.size w w' := by
 have HW := Lib.hid hw
 have HWL := Lib.hid hwl
 obtain ⟨a, c, rfl, hc, _⟩ := hw
 have hown0 := own_empty w
 have hb0 := below_alloc (Below.refl _ w) (.cells #[] 3)
 clear hwl
 go_enter Tryz.func77, Tryz.ntmps77
 go_wp2
 generalize w.alloc (.cells #[] 3) = w1 at *
 have HS0 := Lib.hid hb0.size
 go_loopw [3, 4] (fun v i wr => ∃ (q g cap : Nat), q ≤ ws.length ∧ i = .int .i64 (q : Int) ∧ v = .slice (some ⟨g, 0, none⟩) q cap ∧ Hid (OwnInts w.heap.size wr v ((ws.take q).map numR)) ∧ Hid (Below w.heap.size w wr)) (fun _ i _ => ws.length - (intOf i).toNat)
 case atStart => exact ⟨0, _, _, Nat.zero_le _, rfl, rfl, Lib.hid hown0, Lib.hid hb0⟩
 case round =>
   clear hown0 hb0;obtain ⟨q, g, cap, hq, rfl, rfl, HO, HB⟩ := hrel
   by_cases hlt : q < ws.length
   · have t3 : decide ((q : Int) < (ws.length : Int)) = true := by rw [decide_eq_true_eq]; omega
     have b3 : (0 : Int) ≤ (q : Int) := by omega
     have b4 : (q : Int) < (ws.length : Int) := by omega
     obtain ⟨b, off, c2, e, _, hx⟩ := (HW.out.up HB.out).at_ hlt
     cases e
     have HNR := Lib.hid (rnumber_any (ws[q]'hlt) wr (HWL.out _ (List.getElem_mem hlt)))
     have HT : Hid ((ws.take (q + 1)).map numR = (ws.take q).map numR ++ [numR (ws[q]'hlt)]) := Lib.hid (by rw [List.take_add_one, List.getElem?_eq_getElem hlt, List.map_append]; rfl)
     generalize ws[q]'hlt = x at *
     have hlq : ((ws.take q).map numR).length = q := by rw [List.length_map, List.length_take]; omega
     have HLQ := Lib.hid hlq;clear hlq
     go_wp2_with fail
     refine HNR.out.mono ?_;rintro e w3 ⟨rfl, hb3⟩;have hs3 : w.heap.size ≤ w3.heap.size := Nat.le_trans HB.out.size hb3.size;have hA : Below w3.heap.size w3 (w3.alloc (.cells #[.int .i64 (numR x)] 3)) := below_alloc (Below.refl _ _) _;have HNA : Hid (OwnInts w.heap.size (w3.alloc (.cells #[.int .i64 (numR x)] 3)) (.slice (some ⟨g, 0, none⟩) q cap) ((ws.take q).map numR)) := Lib.hid (HO.out.alters (S := fun _ => False) (Alters.of_below (below_step hb3 hA)) (fun _ h => h.elim));have HB3 := Lib.hid (below_step HB.out hb3);have HBA := Lib.hid hA;have HBQ := Lib.hid hb3;clear hb3 hA HNR hx;generalize numR x = nx at *
     go_wp2_with (at_builtin; go_loud (refine wpList_push rfl (.tmp 12) (.tmp 18) rfl w.heap.size _ ((ws.take q).map numR) rfl HNA.out (by rw [HLQ.out]; omega) (by simp; omega) ⟨w3.heap.size, 0, none⟩ nx rfl (cell_new_at _ _ _ _ _ _ rfl rfl) ?_; intro g8 cap8 w8 hown8 hg8 hat8))
     have HB8 : Hid (Below w.heap.size w w8) := Lib.hid (push_below HB3.out HBA.out hs3 (HO.out.alters (S := fun _ => False) (Alters.of_below HBQ.out) (fun _ h => h.elim)) hg8);have H8 := Lib.hid hown8;clear hown8 hg8 hat8;go_wp2
     go_roundw
     case rel => exact ⟨q + 1, g8, cap8, by omega, by go_num, rfl, Lib.hid (by rw [HT.out]; have := H8.out; rwa [HLQ.out] at this), HB8⟩
     case measure => simp [intOf]; omega
   · obtain rfl : q = ws.length := by omega
     have HOL : Hid (OwnInts w.heap.size wr (.slice (some ⟨g, 0, none⟩) ws.length cap) (ws.map numR)) := Lib.hid (by have := HO.out; rwa [List.take_length] at this)
     clear HO;go_wp2
     go_ret
     exact ⟨_, rfl, HOL.out, HB.out⟩
end Go.Proofs.YtbmcngoeinginaaGreatDoor
