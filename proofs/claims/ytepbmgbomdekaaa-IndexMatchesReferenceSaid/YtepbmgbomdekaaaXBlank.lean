/-
  Blank of the reference; place of the laws.
-/
import Derived.Test.YtepbmgbomdekaaaXPush
import Derived.Test.YtepbmgbomdekaaaXVal
import Derived.Test.YtepbmgbomdekaaaXFil
namespace Go.Proofs.Ytepbmgbomdekaaa
open Go Go.RowKit

theorem own_at {n : Nat} {W : World} {g k cap : Nat} {l : List Int} (h : OwnInts n W (.slice (some ⟨g, 0, none⟩) k cap) l) : n ≤ g ∧ g < W.heap.size := World.ownsRow.lt h g rfl
theorem four_boxes (w : World) (x1 x2 x3 x4 : Array Value) (t1 t2 t3 t4 : TypeId) : Below w.heap.size w ((((w.alloc (.cells x1 t1)).alloc (.cells x2 t2)).alloc (.cells x3 t3)).alloc (.cells x4 t4)) ∧
    ((((w.alloc (.cells x1 t1)).alloc (.cells x2 t2)).alloc (.cells x3 t3)).alloc (.cells x4 t4)).heap[w.heap.size]? = some (.cells x1 t1 (0, 0)) ∧
    ((((w.alloc (.cells x1 t1)).alloc (.cells x2 t2)).alloc (.cells x3 t3)).alloc (.cells x4 t4)).heap[w.heap.size + 1]? = some (.cells x2 t2 (0, 0)) ∧
    ((((w.alloc (.cells x1 t1)).alloc (.cells x2 t2)).alloc (.cells x3 t3)).alloc (.cells x4 t4)).heap[w.heap.size + 1 + 1]? = some (.cells x3 t3 (0, 0)) ∧
    ((((w.alloc (.cells x1 t1)).alloc (.cells x2 t2)).alloc (.cells x3 t3)).alloc (.cells x4 t4)).heap[w.heap.size + 1 + 1 + 1]? = some (.cells x4 t4 (0, 0)) := by
  obtain ⟨h1, h2, h3, h4, h5⟩ := three_boxes w x1 x2 x3 t1 t2 t3
  refine ⟨below_alloc h1 _, (hp_old _ _ _ (bx_lt h2)).trans h2, (hp_old _ _ _ (bx_lt h3)).trans h3, (hp_old _ _ _ (bx_lt h4)).trans h4, ?_⟩
  have := World.alloc_heap_new (((w.alloc (.cells x1 t1)).alloc (.cells x2 t2)).alloc (.cells x3 t3)) (.cells x4 t4)
  rwa [h5] at this
theorem ints_lit {W : World} {B : Nat} {cs : Array Value} {t : TypeId} (h : W.heap[B]? = some (.cells cs t (0, 0))) (l : List Int) (hl : cs.toList = l.map (Value.int .i64)) : Ints W.heap.size W (some ⟨B, 0, none⟩) l := by
  refine .inr ⟨B, 0, rfl, bx_lt h, fun j hj => ?_⟩
  rw [Nat.zero_add]
  refine bx_cell h j ?_
  rw [← Array.getElem?_toList, hl]
  simp [hj]
set_option maxRecDepth 100000 in
theorem place_any (a b c d : Int) (w : World) :
    Calls Try.prog 30 #[.int .i64 a, .int .i64 b, .int .i64 c, .int .i64 d] w fun e w' => ∃ x x0 x1, e = .returned (PosV x x0 x1 4 1 1 ⟨[a, b, c, d], [0], [0], 0, 0⟩) ∧ PosIn w'.heap.size w' x x0 x1 ⟨[a, b, c, d], [0], [0], 0, 0⟩ ∧ Below w.heap.size w w' := by
  go_enter Try.func30, Try.ntmps30
  go_wp2
  obtain ⟨hb, h0, h1, h2, h3⟩ := four_boxes w #[.slice (some ⟨w.heap.size + 1, 0, none⟩) 4 4, .slice (some ⟨w.heap.size + 1 + 1, 0, none⟩) 1 1, .slice (some ⟨w.heap.size + 1 + 1 + 1, 0, none⟩) 1 1, .int .i64 0, .int .i64 0] #[.int .i64 a, .int .i64 b, .int .i64 c, .int .i64 d] #[.int .i64 0] #[.int .i64 0] 27 3 3 3
  generalize (((w.alloc (.cells #[.slice (some ⟨w.heap.size + 1, 0, none⟩) 4 4, .slice (some ⟨w.heap.size + 1 + 1, 0, none⟩) 1 1, .slice (some ⟨w.heap.size + 1 + 1 + 1, 0, none⟩) 1 1, .int .i64 0, .int .i64 0] 27)).alloc (.cells #[.int .i64 a, .int .i64 b, .int .i64 c, .int .i64 d] 3)).alloc (.cells #[.int .i64 0] 3)).alloc (.cells #[.int .i64 0] 3) = w4 at *
  refine bodyPost_ret_by (v := .agg #[.slice (some ⟨w.heap.size + 1, 0, none⟩) 4 4, .slice (some ⟨w.heap.size + 1 + 1, 0, none⟩) 1 1, .slice (some ⟨w.heap.size + 1 + 1 + 1, 0, none⟩) 1 1, .int .i64 0, .int .i64 0]) (results_cell_row rfl _ _ w.heap.size 27 _ (0, 0) _ rfl h0 Try.underlying27 rfl info_pos) rfl ?_
  refine ⟨some ⟨w.heap.size + 1, 0, none⟩, some ⟨w.heap.size + 1 + 1, 0, none⟩, some ⟨w.heap.size + 1 + 1 + 1, 0, none⟩, rfl, ⟨?_, ?_, ?_⟩, hb⟩
  · exact ints_lit h1 [a, b, c, d] rfl
  · exact ints_lit h2 [0] rfl
  · exact ints_lit h3 [0] rfl

theorem conv1 (x : Int) (w : World) : (convert 23 9 (.slice (some ⟨w.heap.size, 0, none⟩) 1 1)).run Try.prog (w.alloc (.cells #[.int .u8 x] 5)) = .ok (.string (strOfNums [x])) (w.alloc (.cells #[.int .u8 x] 5)) :=
  run_convert_bytes_arg (P := Try.prog) _ 23 5 Try.underlying23 Try.underlying5 w.heap.size 0 1 1 [x] rfl (fun i hi => by
    obtain rfl : i = 0 := by omega
    exact cell_new_at _ _ _ _ _ _ rfl rfl) 9 Try.underlying9
attribute [local go_sem] conv1
theorem own_ne_row {n : Nat} {W : World} {e : TypeId} {size k : Nat} {v : Value} {xs : List Value} (h : W.ownsRow n e size v k xs) {B : Nat} {cs : Array Value} {t : TypeId} {fr : Nat × Nat} (hB : W.heap[B]? = some (.cells cs t fr)) (ht : t ≠ e) : ¬ some B = v.ownBlock := by
  intro e
  rcases h.2 with ⟨rfl, _⟩ | ⟨g, cap, cur, rfl, _, hc, _⟩
  · simp [Value.ownBlock] at e
  · obtain rfl : B = g := by simpa [Value.ownBlock] using e
    rw [hB] at hc
    injection hc with hc
    injection hc with _ h2 _
    exact ht h2
theorem row_alters {n : Nat} {W W' : World} {e : TypeId} {size k : Nat} {v : Value} {xs : List Value} (h : W.ownsRow n e size v k xs) {S : Nat → Prop} (ha : Alters S W W') (hS : ∀ z, S z → ¬ some z = v.ownBlock) : W'.ownsRow n e size v k xs := by
  refine ⟨h.1, ?_⟩
  rcases h.2 with h2 | ⟨g, cap, cur, rfl, hg, hc, r⟩
  · exact .inl h2
  · exact .inr ⟨g, cap, cur, rfl, hg, (ha.block g (Array.getElem?_eq_some_iff.1 hc).1 (fun hs => hS g hs rfl)).trans hc, r⟩
theorem keeps_row {W : World} {ak : Option Addr} {ks : List Bool} (h : Keeps W.heap.size W ak ks) {B k n ck j : Nat} {cs old : Array Value} {t : TypeId} {xs : List Value} (hB : W.heap[B]? = some (.cells old t (0, 0))) (ht : t ≠ 80) (ho : W.ownsRow n 80 3 (.slice ak k ck) j xs) : Keeps (W.setRow B cs).heap.size (W.setRow B cs) ak ks := by
  rcases h with h | ⟨b, off, e, hb, hc⟩
  · exact .inl h
  · refine .inr ⟨b, off, e, by rw [size_setRow]; exact hb, fun q hq => ?_⟩
    have hne : b ≠ B := fun e2 => own_ne_row ho hB ht (by rw [e, ← e2]; rfl)
    exact (World.cell?_of_block (a := ⟨b, off + q * 3 + 2, none⟩) (setRow_other W B b cs hne)).trans (hc q hq)
def blankK (nk : Nat) : List Bool := (List.range nk).map fun j => decide (j + 1 = nk)
theorem blankK_len (nk : Nat) : (blankK nk).length = nk := by simp [blankK]
set_option maxRecDepth 100000 in
set_option maxHeartbeats 4000000 in
theorem blank_any (bc nk : Nat) (w : World) (hbc : bc ≤ 64) (h1 : 1 ≤ nk) (h3 : nk ≤ 3) :
    Calls Try.prog 24 #[.int .i64 (bc : Int), .int .i64 (nk : Int)] w fun e w' => ∃ an at_ ak ck, e = .returned (.agg #[.int .i64 (bc : Int), .slice an 1 1, .slice at_ 1 1, .slice ak nk ck, .int .i64 2, .bool false, .slice none 0 0, .int .i64 3, .int .i64 2]) ∧ Keeps w'.heap.size w' ak (blankK nk) ∧ Below w.heap.size w w' := by
  go_enter Try.func24, Try.ntmps24
  go_upto_region 2 with (refine wpList_mk rfl _ _ rfl bc rfl rfl (by omega) ?_; intro w5 hown5 hb5)
  obtain ⟨x, hx⟩ : ∃ x, x = w.heap.size := ⟨_, rfl⟩
  have HX := Lib.hid hx
  have hR0 := World.alloc_heap_new w (.cells #[.int .i64 0, .slice none 0 0, .slice none 0 0, .slice none 0 0, .int .i64 0, .bool false, .slice none 0 0, .int .i64 0, .int .i64 0] 35)
  have hsz : (w.alloc (.cells #[.int .i64 0, .slice none 0 0, .slice none 0 0, .slice none 0 0, .int .i64 0, .bool false, .slice none 0 0, .int .i64 0, .int .i64 0] 35)).heap.size = w.heap.size + 1 := by simp
  have hb1 : Below w.heap.size w (w.alloc (.cells #[.int .i64 0, .slice none 0 0, .slice none 0 0, .slice none 0 0, .int .i64 0, .bool false, .slice none 0 0, .int .i64 0, .int .i64 0] 35)) := below_alloc (Below.refl _ _) _
  generalize w.alloc (.cells #[.int .i64 0, .slice none 0 0, .slice none 0 0, .slice none 0 0, .int .i64 0, .bool false, .slice none 0 0, .int .i64 0, .int .i64 0] 35) = w1 at *
  rw [hsz] at hown5
  have hR5 := hp_up hR0 hb5
  have hB5 := below_step hb1 hb5
  obtain ⟨hb6, n6, t6, g6, -⟩ := three_boxes w5 #[.slice (some ⟨w.heap.size + 1, 0, none⟩) bc bc] #[.int .i64 0] #[.int .i64 (bc : Int), .slice (some ⟨w5.heap.size, 0, none⟩) 1 1, .slice (some ⟨w5.heap.size + 1, 0, none⟩) 1 1, .slice none 0 0, .int .i64 2, .bool false, .slice none 0 0, .int .i64 3, .int .i64 2] 24 3 35
  rw [show w5.heap.size + 1 + 1 = w5.heap.size + 2 from rfl]
  generalize ((w5.alloc (.cells #[.slice (some ⟨w.heap.size + 1, 0, none⟩) bc bc] 24)).alloc (.cells #[.int .i64 0] 3)).alloc (.cells #[.int .i64 (bc : Int), .slice (some ⟨w5.heap.size, 0, none⟩) 1 1, .slice (some ⟨w5.heap.size + 1, 0, none⟩) 1 1, .slice none 0 0, .int .i64 2, .bool false, .slice none 0 0, .int .i64 3, .int .i64 2] 35) = w6 at *
  have hR6 := hp_up hR5 hb6
  have hB6 := below_step hB5 hb6
  have hO6 : OwnInts (w.heap.size + 1) w6 (.slice (some ⟨w.heap.size + 1, 0, none⟩) bc bc) (List.replicate bc 0) := hown5.alters (Alters.of_below (S := fun _ => False) hb6) (fun _ h => h.elim)
  have hlM := (own_at hO6).2
  have hyx := (own_at hown5).2
  simp only [← hx] at hO6 hlM hyx hR6 hB6 n6 g6 ⊢
  generalize w5.heap.size = y at *
  clear hR0 hsz hb1 hown5 hb5 hR5 hB5 hb6 hx
  have HG6 := Lib.hid g6
  have HN6 := Lib.hid n6
  have HR6 := Lib.hid hR6
  have HB6 := Lib.hid hB6
  have hg6 := bx_lt g6
  clear g6 n6 hR6 t6 hB6
  go_wp2
  go_loopw [6] (fun i wr => ∃ (k : Nat) (L : List Int), k ≤ bc ∧ i = .int .i64 k ∧ L.length = bc ∧ Hid (OwnInts (x + 1) wr (.slice (some ⟨x + 1, 0, none⟩) bc bc) L) ∧ Hid (Alters (fun z => z = x + 1) w6 wr)) (fun i _ => bc - (intOf i).toNat)
  case atStart => exact ⟨0, List.replicate bc 0, Nat.zero_le _, rfl, by simp, Lib.hid hO6, Lib.hid (Alters.refl _ _)⟩
  case round =>
    clear hO6
    obtain ⟨k, L, hk, rfl, hL, HO, HA⟩ := hrel
    by_cases hlt : k < bc
    · obtain ⟨cM, fM⟩ := HO.out.cellAt (j := k) (by rw [hL]; exact hlt)
      have hGr := (HA.out.block _ hg6 (by omega)).trans HG6.out
      have hNr := (HA.out.block y (by omega) (by omega)).trans HN6.out
      have q1 : wr.cell? ⟨y + 2, 1, none⟩ = some (.slice (some ⟨y, 0, none⟩) 1 1) := bx_cell hGr 1 rfl
      have q2 : wr.cell? ⟨y, 0, none⟩ = some (.slice (some ⟨x + 1, 0, none⟩) bc bc) := bx_cell hNr 0 rfl
      have HO2 := Lib.hid (HO.out.set k (-1))
      have HA2 := Lib.hid (HA.out.trans (alters_cell wr (x + 1) k (.int .i64 (-1))))
      have HL2 := Lib.hid (show (L.set k (-1)).length = bc by rw [List.length_set]; exact hL)
      have lr1 := bx_lt hGr
      have lr2 := bx_lt hNr
      have lr3 : x + 1 < wr.heap.size := World.block_lt_of_cell? _ _ cM
      generalize L[k]?.getD 0 = vM at cM
      have t1 : decide ((k : Int) < (bc : Int)) = true := by simp; omega
      clear hGr hNr hL HO HA
      go_wp2
      go_roundw
      case rel => exact ⟨k + 1, L.set k (-1), by omega, by go_num, HL2.out, HO2, HA2⟩
      case measure => simp [intOf]; omega
    · obtain rfl : bc = k := by omega
      have t1 : decide ((bc : Int) < (bc : Int)) = false := by simp
      have hGr := (HA.out.block _ hg6 (by omega)).trans HG6.out
      have hRr := (HA.out.block x (by omega) (by omega)).trans HR6.out
      have hBr : Below x w wr := HB6.out.trans (HA.out.below (by omega) (fun z hz => by have e : z = x + 1 := hz; omega))
      have HG := Lib.hid hGr
      have HR := Lib.hid hRr
      have HB := Lib.hid hBr
      have hx9 : x ≤ wr.heap.size := by have := bx_lt hRr; omega
      clear hGr hRr hBr HA HO hL hlt hlM
      generalize wr = w7 at *
      go_wp2
      go_loopw [7] (fun i wr => ∃ (j : Nat) (kv : Value) (vs : List Value), j ≤ nk ∧ i = .int .i64 j ∧ Hid (wr.heap[y + 2]? = some (.cells #[.int .i64 (bc : Int), .slice (some ⟨y, 0, none⟩) 1 1, .slice (some ⟨y + 1, 0, none⟩) 1 1, kv, .int .i64 2, .bool false, .slice none 0 0, .int .i64 3, .int .i64 2] 35 (0, 0))) ∧ Hid (wr.heap[x]? = some (.cells #[.int .i64 0, .slice none 0 0, .slice none 0 0, .slice none 0 0, .int .i64 0, .bool false, .slice none 0 0, .int .i64 0, .int .i64 0] 35 (0, 0))) ∧ Hid (wr.ownsRow x 80 3 kv j vs) ∧ Hid (∀ q, q < j → vs[q * 3 + 2]? = some (.bool (decide (q + 1 = nk)))) ∧ Hid (Below x w wr)) (fun i _ => nk - (intOf i).toNat)
      case atStart => exact ⟨0, .slice none 0 0, [], Nat.zero_le _, rfl, HG, HR, Lib.hid ⟨by simp, .inl ⟨rfl, rfl⟩⟩, Lib.hid (fun q hq => absurd hq (Nat.not_lt_zero _)), HB⟩
      case round =>
        clear HG HR HB hx9
        obtain ⟨j, kv, vs, hj, rfl, HG, HR, HO, HV, HB⟩ := hrel
        have hlg := bx_lt HG.out
        have hlr := bx_lt HR.out
        by_cases hlt : j < nk
        · have q3 : wr.cell? ⟨y + 2, 3, none⟩ = some kv := bx_cell HG.out 3 rfl
          have t1 : decide ((j : Int) < (nk : Int)) = true := by simp; omega
          obtain ⟨kb, hkb⟩ : ∃ kb, decide (j + 1 = nk) = kb := ⟨_, rfl⟩
          have t2 : ((j : Int) == (nk : Int) - 1) = kb := by rw [← hkb, Bool.eq_iff_iff]; simp; omega
          have t3 : decide ((j : Int) = (nk : Int) - 1) = kb := by rw [← hkb, Bool.eq_iff_iff]; simp; omega
          have HKB := Lib.hid hkb
          clear hkb
          go_wp2_with (refine wpList_pushC rfl 32 80 _ 3 48 Try.underlying32 info_kindC rfl (by omega) (by omega) (.tmp 33) (.tmp 44) rfl x kv j vs rfl ((HO.out.alloc _).alloc _) (by omega) (by simp; omega) (wr.heap.size + 1) 1 [.string (strOfNums [97 + (j : Int)]), .slice none 0 0, .bool kb] rfl rfl ?_ ?_ ?_; (have := World.alloc_heap_new (wr.alloc (.cells #[.int .u8 (97 + (j : Int))] 5)) (.cells #[.string (strOfNums [97 + (j : Int)]), .slice none 0 0, .bool kb] 80); simpa using this); (intro u hu; simp at hu; rcases hu with rfl | rfl | rfl <;> rfl); intro g cap w9 hr9 hg9 hor; have hba : Below wr.heap.size wr ((wr.alloc (.cells #[.int .u8 (97 + (j : Int))] 5)).alloc (.cells #[.string (strOfNums [97 + (j : Int)]), .slice none 0 0, .bool kb] 80)) := below_alloc (below_alloc (Below.refl _ _) _) _; have hx9 : w9.heap[y + 2]? = some (.cells #[.int .i64 (bc : Int), .slice (some ⟨y, 0, none⟩) 1 1, .slice (some ⟨y + 1, 0, none⟩) 1 1, kv, .int .i64 2, .bool false, .slice none 0 0, .int .i64 3, .int .i64 2] 35 (0, 0)) := (hg9.block (y + 2) (by simp; omega) (own_ne_row HO.out HG.out (by decide))).trans (hp_up HG.out hba); have hz9 : w9.heap[x]? = _ := (hg9.block x (by simp; omega) (own_ne_row HO.out HR.out (by decide))).trans (hp_up HR.out hba); have c9 : w9.cell? ⟨y + 2, 3, none⟩ = some kv := bx_cell hx9 3 rfl; have f9 := bx_frozen hx9 3; have l9 := bx_lt hx9)
          have hA9 : Alters (fun z => some z = kv.ownBlock) wr w9 := (Alters.of_below hba).trans (Alters.of_grown hg9)
          have hB9 : Below x w w9 := HB.out.trans (hA9.below (by omega) (fun z hz => (World.ownsRow.lt HO.out z hz.symm).1))
          have HX2 := Lib.hid (show (w9.setCell ⟨y + 2, 3, none⟩ (.slice (some ⟨g, 0, none⟩) (j + 1) cap)).heap[y + 2]? = some (.cells #[.int .i64 (bc : Int), .slice (some ⟨y, 0, none⟩) 1 1, .slice (some ⟨y + 1, 0, none⟩) 1 1, (.slice (some ⟨g, 0, none⟩) (j + 1) cap), .int .i64 2, .bool false, .slice none 0 0, .int .i64 3, .int .i64 2] 35 (0, 0)) from (bx_set hx9 3 _).trans rfl)
          have HZ2 := Lib.hid (show (w9.setCell ⟨y + 2, 3, none⟩ (.slice (some ⟨g, 0, none⟩) (j + 1) cap)).heap[x]? = some (.cells #[.int .i64 0, .slice none 0 0, .slice none 0 0, .slice none 0 0, .int .i64 0, .bool false, .slice none 0 0, .int .i64 0, .int .i64 0] 35 (0, 0)) from (hp_far _ _ _ _ _ (by omega)).trans hz9)
          have HO2 := Lib.hid (show (w9.setCell ⟨y + 2, 3, none⟩ (.slice (some ⟨g, 0, none⟩) (j + 1) cap)).ownsRow x 80 3 (.slice (some ⟨g, 0, none⟩) (j + 1) cap) (j + 1) (vs ++ [.string (strOfNums [97 + (j : Int)]), .slice none 0 0, .bool kb]) from row_alters hr9 (alters_cell w9 (y + 2) 3 _) (fun z hz hv => by
            have e : z = y + 2 := hz
            subst e
            exact own_ne_row hr9 hx9 (by decide) hv))
          have HB2 := Lib.hid (hB9.trans ((alters_cell w9 (y + 2) 3 (.slice (some ⟨g, 0, none⟩) (j + 1) cap)).below (by omega) (fun z hz => by have e : z = y + 2 := hz; omega)))
          have hvl : vs.length = j * 3 := HO.out.1
          have HV2 := Lib.hid (show ∀ q, q < j + 1 → (vs ++ [.string (strOfNums [97 + (j : Int)]), .slice none 0 0, .bool kb])[q * 3 + 2]? = some (.bool (decide (q + 1 = nk))) from fun q hq => by
            rcases Nat.lt_or_ge q j with h | h
            · rw [List.getElem?_append_left (by omega)]; exact HV.out q h
            · obtain rfl : q = j := by omega
              rw [List.getElem?_append_right (by omega), hvl, HKB.out, show q * 3 + 2 - q * 3 = 2 by omega]
              rfl)
          clear hx9 hz9 hA9 hB9 hr9 hg9 hor hba HO HV HG HR HB hvl
          go_wp2
          go_roundw
          case rel => exact ⟨j + 1, _, _, by omega, by go_num, HX2, HZ2, HO2, HV2, HB2⟩
          case measure => simp [intOf]; omega
        · obtain rfl : nk = j := by omega
          have t1 : decide ((nk : Int) < (nk : Int)) = false := by simp
          obtain ⟨ak, ck, hkv, hkp⟩ : ∃ ak ck, kv = .slice ak nk ck ∧ Keeps wr.heap.size wr ak (blankK nk) := by
            rcases HO.out.2 with ⟨_, h0⟩ | ⟨g, cap, cur, rfl, hg, hc, _⟩
            · omega
            · refine ⟨_, _, rfl, .inr ⟨g, 0, rfl, (Array.getElem?_eq_some_iff.1 hc).1, fun q hq => ?_⟩⟩
              rw [blankK_len] at hq
              have h1 := World.ownsRow.cellAt HO.out (q * 3 + 2) (by omega)
              rw [Nat.zero_add, h1, HV.out q hq]
              simp [blankK, hq]
          subst hkv
          have hst := setRow_heap wr x _ #[.int .i64 (bc : Int), .slice (some ⟨y, 0, none⟩) 1 1, .slice (some ⟨y + 1, 0, none⟩) 1 1, .slice ak nk ck, .int .i64 2, .bool false, .slice none 0 0, .int .i64 3, .int .i64 2] _ _ HR.out
          have hsa := setRow_alt wr x #[.int .i64 (bc : Int), .slice (some ⟨y, 0, none⟩) 1 1, .slice (some ⟨y + 1, 0, none⟩) 1 1, .slice ak nk ck, .int .i64 2, .bool false, .slice none 0 0, .int .i64 3, .int .i64 2]
          have HF := Lib.hid (show Keeps (wr.setRow x #[.int .i64 (bc : Int), .slice (some ⟨y, 0, none⟩) 1 1, .slice (some ⟨y + 1, 0, none⟩) 1 1, .slice ak nk ck, .int .i64 2, .bool false, .slice none 0 0, .int .i64 3, .int .i64 2]).heap.size (wr.setRow x #[.int .i64 (bc : Int), .slice (some ⟨y, 0, none⟩) 1 1, .slice (some ⟨y + 1, 0, none⟩) 1 1, .slice ak nk ck, .int .i64 2, .bool false, .slice none 0 0, .int .i64 3, .int .i64 2]) ak (blankK nk) ∧ Below x w (wr.setRow x #[.int .i64 (bc : Int), .slice (some ⟨y, 0, none⟩) 1 1, .slice (some ⟨y + 1, 0, none⟩) 1 1, .slice ak nk ck, .int .i64 2, .bool false, .slice none 0 0, .int .i64 3, .int .i64 2]) from
            ⟨keeps_row hkp HR.out (by decide) HO.out, HB.out.trans (hsa.below (by omega) (fun z hz => Nat.le_of_eq (Eq.symm hz)))⟩)
          have HG9 := Lib.hid HG.out
          have HR9 := Lib.hid HR.out
          clear HG HR HO HV HB hkp hsa
          go_wp2_with (first | (refine wpList_load_row rfl 35 (.tmp 5) rfl (y + 2) rfl 35 _ (0, 0) _ HG9.out Try.underlying35 rfl info_game ?_) | (refine wpList_store_row rfl 35 (.tmp 4) (.tmp 47) rfl x #[.int .i64 (bc : Int), .slice (some ⟨y, 0, none⟩) 1 1, .slice (some ⟨y + 1, 0, none⟩) 1 1, .slice ak nk ck, .int .i64 2, .bool false, .slice none 0 0, .int .i64 3, .int .i64 2] rfl rfl 35 _ HR9.out info_game rfl (by simp [Value.oneCell']) ?_))
          generalize wr.setRow x #[.int .i64 (bc : Int), .slice (some ⟨y, 0, none⟩) 1 1, .slice (some ⟨y + 1, 0, none⟩) 1 1, .slice ak nk ck, .int .i64 2, .bool false, .slice none 0 0, .int .i64 3, .int .i64 2] = w8 at *
          refine bodyPost_ret_by (v := .agg #[.int .i64 (bc : Int), .slice (some ⟨y, 0, none⟩) 1 1, .slice (some ⟨y + 1, 0, none⟩) 1 1, .slice ak nk ck, .int .i64 2, .bool false, .slice none 0 0, .int .i64 3, .int .i64 2]) (results_cell_row rfl _ _ x 35 _ (0, 0) _ rfl hst Try.underlying35 rfl info_game) rfl ?_
          have eh := HX.out
          rw [← eh]
          exact ⟨_, _, ak, ck, rfl, HF.out⟩
end Go.Proofs.Ytepbmgbomdekaaa
