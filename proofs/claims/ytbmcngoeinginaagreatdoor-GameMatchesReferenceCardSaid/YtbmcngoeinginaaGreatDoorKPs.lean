/-
 Of the reference of programs: Parse; what it gives is the call's own.
-/
import Derived.Test.YtbmcngoeinginaaGreatDoorPRefM
import Derived.Test.YtbmcngoeinginaaGreatDoorPushO
import Derived.Test.YtbmcngoeinginaaGreatDoorKRef
namespace Go.Proofs.YtbmcngoeinginaaGreatDoor
open Go Go.RowKit Go.Sort Go.Lib
theorem scan_wlen (s : List UInt8) : ∀ q, (scanTo s q).2.length ≤ q
 | 0 => by simp [scanTo]
 | q + 1 => by
   have ih := scan_wlen s q;rw [scanTo];unfold scan1
   split
   · split <;> simp <;> omega
   · simp
theorem steps_len2 : (stepsQ 80).length = 42 := by decide +kernel
theorem hitsOf_len (l : List (Int × Int)) (wd : List UInt8) : (hitsOf l wd).length ≤ l.length := by unfold hitsOf; exact List.length_filter_le _ _
theorem hitsOf_succ (l : List (Int × Int)) (wd : List UInt8) (k : Nat) (h : k < l.length) : hitsOf (l.take (k + 1)) wd = hitsOf (l.take k) wd ++ if rwordS (l[k]?.getD (0, 0)) = wd then [l[k]?.getD (0, 0)] else [] := by
 unfold hitsOf
 rw [List.take_add_one, List.getElem?_eq_getElem h, Option.toList_some, List.filter_append, Option.getD_some]
 congr 1
 by_cases e : rwordS l[k] = wd <;> simp [e]
theorem ext_oneK (s : List UInt8) (q : Nat) (h : q < s.length) : (⟨s.toArray⟩ : ByteArray).extract q (q + 1) = ⟨#[s[q]?.getD 0]⟩ := by
 apply ByteArray.ext
 rw [ByteArray.data_extract]
 apply Array.ext
 · simp; omega
 · intro i h1 h2
   obtain rfl : i = 0 := by simpa using h2
   simp [h]
theorem byte_atK (s : List UInt8) (q : Nat) (h : q < s.length) (h2 : q < (⟨s.toArray⟩ : ByteArray).size) : (⟨s.toArray⟩ : ByteArray)[q] = s[q]?.getD 0 := by
 rw [List.getElem?_eq_getElem h]; rfl
theorem byte_neK (s : List UInt8) (q : Nat) (h : q < s.length) (hn : ¬ s[q]?.getD 0 = 32) : ∀ h2 : q < (⟨s.toArray⟩ : ByteArray).size, (((⟨s.toArray⟩ : ByteArray)[q].toNat : Int) != 32) = true := fun h2 => by
 rw [byte_atK s q h h2]
 generalize s[q]?.getD 0 = y at hn
 simp
 intro e
 exact hn (UInt8.toNat_inj.1 (by simpa using (by omega : y.toNat = 32)))
theorem byte_eqK (s : List UInt8) (q : Nat) (h : q < s.length) (hn : s[q]?.getD 0 = 32) : ∀ h2 : q < (⟨s.toArray⟩ : ByteArray).size, (((⟨s.toArray⟩ : ByteArray)[q].toNat : Int) != 32) = false := fun h2 => by
 rw [byte_atK s q h h2, hn]
 rfl
theorem PO.bel {w w5 W : World} {B0 n : Nat} {v : Value} {l : List (Int × Int)} (h : PO w5 B0 W v l) (hb : Below n w w5) (h1 : n ≤ B0) (h2 : n ≤ w5.heap.size) : Below n w W :=
 hb.trans (h.keep.below h2 (fun k hk => by rcases hk with rfl | hk <;> omega))
theorem PO.prgOf {w5 W : World} {B0 : Nat} {v : Value} {l : List (Int × Int)} (h : PO w5 B0 W v l) : ∃ g cap, v = .slice (some ⟨g, 0, none⟩) l.length cap ∧ Prg W.heap.size W (some ⟨g, 0, none⟩) l := by
 obtain ⟨g, cap, rfl⟩ := h.form
 obtain ⟨_, _, e, hp⟩ := h.own.prg
 cases e
 exact ⟨g, cap, rfl, hp⟩
theorem PO.ownlow {w5 W : World} {B0 n : Nat} {v : Value} {l : List (Int × Int)} (h : PO w5 B0 W v l) (h1 : n ≤ B0) (h2 : n ≤ w5.heap.size) : OwnStp n W v l := by
 refine ⟨h.own.1, ?_⟩
 rcases h.own.2 with h0 | ⟨g, cap, cur, hv, _, r⟩
 · exact .inl h0
 · refine .inr ⟨g, cap, cur, hv, ?_, r⟩
   rcases h.spot with hs | ⟨k, hk, hs⟩
   · rw [hv] at hs; simp [Value.ownBlock] at hs; omega
   · rw [hv] at hs; simp [Value.ownBlock] at hs; omega
set_option maxRecDepth 100000 in
set_option maxHeartbeats 4000000 in
theorem rparse_any (s : List UInt8) (hs : s.length ≤ 100000) (w : World) :
   Calls Tryz.prog 78 #[.string ⟨s.toArray⟩] w fun e w' => ∃ v, e = .returned (.tuple #[v, .int .i64 (parseS s).2]) ∧ OwnStp w.heap.size w' v (parseS s).1 ∧ Below w.heap.size w w' := by
 obtain ⟨PS, hPS⟩ : ∃ PS, PS = parseS s := ⟨_, rfl⟩
 rw [← hPS]
 have HPS0 := Lib.hid hPS
 clear hPS
 go_enter Tryz.func78, Tryz.ntmps78
 go_wp2_with fail
 have hb0 : Below w.heap.size w (w.alloc (.cells #[] 91)) := below_alloc (Below.refl _ _) _
 have ho0 := (ownP_empty w w.heap.size rfl).mono (Nat.zero_le _)
 have hs0 : (w.alloc (.cells #[] 91)).heap.size = w.heap.size + 1 := World.size_alloc _ _
 generalize w.alloc (.cells #[] 91) = w1 at *
 refine (steps_any w1).mono ?_
 rintro e w5 ⟨v, rfl, hown, hb1⟩
 have hSL := steps_len2
 have hHT : ∀ wd, hits wd = hitsOf (stepsQ 80) wd := fun _ => rfl
 have hok : ∀ x ∈ stepsQ 80, okStep 8 6 4 x = true := fun x hx => by unfold stepsQ at hx; exact (List.mem_filter.1 hx).2
 generalize stepsQ 80 = S at *
 obtain ⟨gS, capS, rfl, hgS, hgl⟩ := hown.some_of (by omega)
 obtain ⟨_, _, e, hprg⟩ := hown.prg
 cases e
 have HPS := Lib.hid (show Prg w5.heap.size w5 (some ⟨gS, 0, none⟩) S from hprg)
 have HOK := Lib.hid hok
 have HHT := Lib.hid hHT
 have hbw := below_step hb0 hb1
 have hP0 : PO w5 w.heap.size w5 (.slice (some ⟨w.heap.size, 0, none⟩) 0 0) [] := ⟨ho0.below hb1, .inl rfl, Alters.refl _ _⟩
 have hSL2 : S.length ≤ 42 := by omega
 have hne : ¬ (gS = w.heap.size ∨ w5.heap.size ≤ gS) := by omega
 have hw5 : w.heap.size < w5.heap.size := by have := hb1.size; omega
 clear hown hprg hok hHT ho0 hb0 hb1 hSL hs0
 go_wp2_with fail
 go_loopw [4, 5, 7] (fun o wd i wr => ∃ q : Nat, q ≤ s.length + 1 ∧ i = .int .i64 q ∧ wd = .string ⟨(scanTo s q).2.toArray⟩ ∧ PO w5 w.heap.size wr o (scanTo s q).1 ∧ Hid ((scanTo s q).1.length ≤ 60))
   (fun _ _ i _ => s.length + 1 - (intOf i).toNat)
 case atStart => exact ⟨0, by omega, rfl, rfl, hP0, Lib.hid (by simp [scanTo])⟩
 case round =>
   clear hP0;obtain ⟨q, hq, rfl, rfl, hpp, hol⟩ := hrel;have HST := Lib.hid (show scanTo s (q + 1) = scan1 (scanTo s q) s[q]? from rfl);have HWL := Lib.hid (scan_wlen s q);have HRP := Lib.hid (fun h => ref_parse (s := s) (i := q) h);generalize scanTo s q = st at *;obtain ⟨O, wd⟩ := st;dsimp only at hpp hol HWL HRP ⊢;have hol2 := hol.out;have hwl2 := HWL.out;obtain ⟨gO, capO, rfl, hprO⟩ := hpp.prgOf;have HPO := Lib.hid hpp;have HPR := Lib.hid hprO;have HBW := Lib.hid (hpp.bel hbw (Nat.le_refl _) (by omega));clear hpp hprO
   by_cases hgo : q ≤ s.length ∧ O.length ≤ 8
   · obtain ⟨hq1, hO8⟩ := hgo
     have t0 : decide ((O.length : Int) ≤ 8) = true := by simp; omega
     by_cases hsp : q < s.length ∧ ¬ s[q]?.getD 0 = 32
     · obtain ⟨hlt, hne32⟩ := hsp
       have hsq : s[q]? = some (s[q]?.getD 0) := by rw [List.getElem?_eq_getElem hlt]; rfl
       have HS2 := Lib.hid (show scanTo s (q + 1) = (O, wd ++ [s[q]?.getD 0]) by rw [HST.out, hsq]; simp [scan1, hne32])
       have hext := ext_oneK s q hlt;have hT := byte_neK s q hlt hne32
       have HQ := Lib.hid (show s[q]?.getD 0 = s[q] by rw [List.getElem?_eq_getElem hlt]; rfl)
       have HNE := Lib.hid hne32;clear hsq hne32;go_wp2
       go_roundw
       case rel => exact ⟨q + 1, by omega, by simp, by rw [HS2.out, HQ.out]; simp [ByteArray.ext_iff], by rw [HS2.out]; exact HPO.out, Lib.hid (by rw [HS2.out]; exact hol2)⟩
       case measure => simp [intOf]; omega
     · have HS2 := Lib.hid (show scanTo s (q + 1) = (O ++ hitsOf S wd, []) by
         rw [HST.out, ← HHT.out]
         by_cases hlt : q < s.length
         · have hsq : s[q]? = some (s[q]?.getD 0) := by rw [List.getElem?_eq_getElem hlt]; rfl
           have h32 : s[q]?.getD 0 = 32 := by
             by_cases h : s[q]?.getD 0 = 32
             · exact h
             · exact absurd ⟨hlt, h⟩ hsp
           rw [hsq, h32]; rfl
         · rw [List.getElem?_eq_none (by omega)]; rfl)
       have hT : (q < s.length ∧ ∃ h : q < (⟨s.toArray⟩ : ByteArray).size, (((⟨s.toArray⟩ : ByteArray)[q].toNat : Int) != 32) = false) ∨ ¬ q < s.length := by
         by_cases hlt : q < s.length
         · left
           refine ⟨hlt, by show q < s.toArray.size; simpa using hlt, ?_⟩
           refine byte_eqK s q hlt ?_ _
           by_cases h : s[q]?.getD 0 = 32
           · exact h
           · exact absurd ⟨hlt, h⟩ hsp
         · right; exact hlt
       clear hsp
       rcases hT with ⟨hlt, hsz, hT⟩ | hlt
       all_goals
         go_wp2_with fail
         go_loopw [4, 8] (fun o k wr2 => ∃ j : Nat, j ≤ S.length ∧ k = .int .i64 j ∧ PO w5 w.heap.size wr2 o (O ++ hitsOf (S.take j) wd))
           (fun _ k _ => S.length - (intOf k).toNat)
         case atStart => exact ⟨0, Nat.zero_le _, rfl, by simpa [hitsOf] using HPO.out⟩
         case round =>
           obtain ⟨wr2, hwr2⟩ : ∃ x, x = wr := ⟨_, rfl⟩;subst hwr2;obtain ⟨j, hj, rfl, hpp2⟩ := hrel;obtain ⟨gP, capP, rfl, hprP⟩ := hpp2.prgOf
           by_cases hjl : j < S.length
           · obtain ⟨bs, fs, hab, hbN, hop, hnn⟩ := (HPS.out.turnedBy hpp2.keep hne).at_ hjl
             cases hab
             rw [Nat.zero_add] at hop hnn;have hsn := hitsOf_succ S wd j hjl;have hsl := hitsOf_len (S.take j) wd;obtain ⟨op, n, hx, _, h11, h8⟩ := ok_nat (HOK.out S[j] (List.getElem_mem hjl))
             have hx2 : S[j]?.getD (0, 0) = ((op : Int), (n : Int)) := by rw [List.getElem?_eq_getElem hjl]; exact hx
             rw [hx2] at hop hnn hsn;dsimp only at hop hnn
             have hL : (O ++ hitsOf (S.take j) wd).length < 2000 := by
               rw [List.length_append];have : (S.take j).length ≤ j := List.length_take_le _ _
               omega
             have HPP2 := Lib.hid hpp2;have HW := Lib.hid (rword_any op n wr2 h11 h8);clear hx hx2 hpp2 hprP hsl;have HSN := Lib.hid hsn;clear hsn;generalize hLL : O ++ hitsOf (S.take j) wd = L at *;have HLL := Lib.hid hLL;have HL := Lib.hid hL;clear hLL hL
             go_wp2_with fail
             refine HW.out.mono ?_;rintro e w8 ⟨rfl, hb8⟩;unfold strV;replace hop := cell_keep hb8 hop;replace hnn := cell_keep hb8 hnn;have HP8 := Lib.hid (HPP2.out.below hb8)
             by_cases heq : rwordS ((op : Int), (n : Int)) = wd
             · have HR := Lib.hid (show O ++ hitsOf (S.take (j + 1)) wd = L ++ [((op : Int), (n : Int))] by rw [HSN.out, if_pos heq, ← List.append_assoc, HLL.out])
               rw [heq];have HP9 := Lib.hid (HP8.out.below (below_alloc (Below.refl _ _) (.cells #[.int .i64 (op : Int), .int .i64 (n : Int)] 91)));have HPL := Lib.hid (prg_lit w8 w8.heap.size (op : Int) n rfl);clear heq
               go_wp2_with (at_builtin; go_loud (refine wpList_pushPO rfl 68 ty_prog (.tmp 52) (.tmp 57) rfl w5 w.heap.size _ _ L rfl HP9.out HL.out w8.heap.size 0 1 1 [((op : Int), (n : Int))] rfl rfl (by simp) HPL.out ?_; intro v10 w10 hpo10))
               go_roundw
               case rel => exact ⟨j + 1, by omega, by simp, by rw [HR.out]; exact hpo10⟩
               case measure => simp [intOf]; omega
             · have HR := Lib.hid (show O ++ hitsOf (S.take (j + 1)) wd = L by rw [HSN.out, if_neg heq, List.append_nil, HLL.out])
               have ht : (rwordS ((op : Int), (n : Int)) == wd) = false := by simpa using heq
               generalize rwordS ((op : Int), (n : Int)) = rw_ at *;clear heq;go_wp2
               go_roundw
               case rel => exact ⟨j + 1, by omega, by simp, by rw [HR.out]; exact HP8.out⟩
               case measure => simp [intOf]; omega
           · obtain rfl : j = S.length := by omega
             rw [List.take_of_length_le (Nat.le_refl _)] at hpp2 ⊢;have hsl := hitsOf_len S wd;have HPP2 := Lib.hid hpp2
             have HLN := Lib.hid (show (O ++ hitsOf S wd).length ≤ 60 by rw [List.length_append]; omega)
             clear hpp2 hprP hsl;go_wp2
             go_roundw
             case rel => exact ⟨q + 1, by omega, by simp, by rw [HS2.out], by rw [HS2.out]; exact HPP2.out, Lib.hid (by rw [HS2.out]; exact HLN.out)⟩
             case measure => simp [intOf]; omega
   · skip
     have hfin := HRP.out (by omega);have HFIN := Lib.hid hfin;have HPP := Lib.hid (rprint_any O (some ⟨gO, 0, none⟩) capO wr.heap.size wr (by omega) (Nat.le_refl _) HPR.out);have hbr := HBW.out;clear hfin
     rcases (show (q ≤ s.length ∧ ¬ O.length ≤ 8) ∨ ¬ q ≤ s.length by omega) with ⟨h1, h2⟩ | h1
     all_goals
       clear hgo
       go_wp2_with fail
       refine HPP.out.mono ?_;rintro e w8 ⟨rfl, hb8⟩;have hb9 := below_step hbr hb8;unfold strV
       by_cases hc : printS O = s
       · rw [hc]
         by_cases hs0 : s = []
         · have HR := Lib.hid (show PS = ([], 20) by rw [HPS0.out, HFIN.out, if_neg (by simp [hs0])])
           subst hs0;clear hc;go_wp2
           go_ret2
           exact ⟨_, by rw [HR.out]; rfl, by rw [HR.out]; exact (ownP_empty w8 w8.heap.size rfl).mono hb9.size, below_step hb9 (below_alloc (Below.refl _ _) _)⟩
         · have HR := Lib.hid (show PS = (O, 0) by rw [HPS0.out, HFIN.out, if_pos ⟨hc, hs0⟩])
           have ht1 : (s == []) = false := by simpa using hs0
           have ht2 : s.isEmpty = false := by simpa using hs0
           clear hc hs0;have HP8 := Lib.hid ((HPO.out.ownlow (Nat.le_refl _) (by omega)).below hb8);go_wp2
           go_ret2
           exact ⟨_, by rw [HR.out]; rfl, by rw [HR.out]; exact HP8.out, hb9⟩
       · have HR := Lib.hid (show PS = ([], 20) by rw [HPS0.out, HFIN.out, if_neg (fun h => hc h.1)])
         generalize printS O = pO at *
         have ht1 : (pO == s) = false := by simpa using hc
         clear hc;go_wp2
         go_ret2
         exact ⟨_, by rw [HR.out]; rfl, by rw [HR.out]; exact (ownP_empty w8 w8.heap.size rfl).mono hb9.size, below_step hb9 (below_alloc (Below.refl _ _) _)⟩
end Go.Proofs.YtbmcngoeinginaaGreatDoor
