/-
 addProg of the reader, and the function of lines for programs.
 The function of lines for programs.
 lines of the reader: the map of functions by first words; looking a word up.
 The game that the reader holds, as data: each list in blocks of its own.
 What the reader holds is a game in memory; a program more.
 A program more, for the last kind.
 What a line does to the game that the reader holds.
 Splitting at one byte, into at most so many pieces.
 read of the package game.
 read of the package game, walked.
 Parse of the package game, for every text.
 The games and texts of the laws' examples: what is true of them.
-/
import Derived.Test.YtbmcngoeinginaaGreatDoorTk
import Derived.Test.YtbmcngoeinginaaGreatDoorCLns
import Derived.Test.YtbmcngoeinginaaGreatDoorCPro
import Derived.Deep.QuietTactic
import Derived.BigQuiet
import Derived.Maps.Own
import Derived.Test.YtbmcngoeinginaaGreatDoorCWrt
namespace Go.Proofs.YtbmcngoeinginaaGreatDoor
open Go Go.RowKit Go.Lib
theorem bx_has {r : Nat} {c0 c1 c2 c3 c4 c5 c6 c7 c8 wv : Value} {W : World} (hx : RdBox r c0 c1 c2 c3 c4 c5 c6 c7 c8 wv W) (j : Nat) (v : Value) (h : (#[c0, c1, c2, c3, c4, c5, c6, c7, c8, wv] : Array Value)[j]? = some v) : W.cell? ⟨r, j, none⟩ = some v := bx_cell hx j h
theorem addProg_none (r : Nat) (c0 c1 c2 c4 c5 c6 c7 c8 wv : Value) (a : Option Addr) (cap : Nat) (s : List UInt8) (w : World) (hx : RdBox r c0 c1 c2 (.slice a 0 cap) c4 c5 c6 c7 c8 wv w) :
   Calls Tryz.prog 97 #[.pointer (some ⟨r, 0, none⟩), .string ⟨s.toArray⟩] w fun e w' => (∃ v, e = .returned v) ∧ w' = w := by
 have q3 := bx_has hx 3 _ rfl
 go_enter Tryz.func97, Tryz.ntmps97
 go_wp2
 refine bodyPost_ret (results_none rfl _ _ _) rfl ?_
 exact ⟨⟨_, rfl⟩, rfl⟩
theorem own_kept_apart {n m size k size2 k2 : Nat} {W W7 : World} {e e2 : TypeId} {v v2 : Value} {xs xs2 : List Value} (h1 : W.ownsRow n e size v k xs) (h2 : W.ownsRow m e2 size2 v2 k2 xs2) (hne : e ≠ e2) (hg : W.grownBy W7 v2.ownBlock) : W7.ownsRow n e size v k xs := World.ownsRow.altR h1 (Alters.of_grown hg) (fun _ hb hv => apart_types h1 h2 hne hv hb)
theorem set_last {xs : List Value} {k : Nat} (hxl : xs.length = k * 3) (a b c u : Value) : (xs ++ [a, b, c]).set (k * 3 + 1) u = xs ++ [a, u, c] := by
 rw [List.set_append_right _ _ (by omega), hxl, Nat.add_sub_cancel_left]; rfl
theorem rd_has {r : Nat} {c0 c1 c2 c3 c4 c5 c6 c7 c8 wv : Value} {W : World} (hx : RdBox r c0 c1 c2 c3 c4 c5 c6 c7 c8 wv W) {n size k : Nat} {e : TypeId} {v : Value} {xs : List Value} (h : W.ownsRow n e size v k xs) (hne : e ≠ 112) : ¬ some r = v.ownBlock := fun hb => by
 obtain ⟨cs, e1⟩ := own_has_ h hb
 rw [show W.heap[r]? = _ from hx] at e1
 cases e1
 exact hne rfl
theorem prog7 {r h k m g1 cap1 : Nat} {c0 c1 c2 c4 c5 c6 c7 c8 wv nm pv kp pw : Value} {xs ps : List Value} {w3 w7 : World} (hxl : xs.length = k * 3) (hx3 : RdBox r c0 c1 c2 (.slice (some ⟨g1, 0, none⟩) (k + 1) cap1) c4 c5 c6 c7 c8 wv w3)
   (ho3 : w3.ownsRow h 63 3 (.slice (some ⟨g1, 0, none⟩) (k + 1) cap1) (k + 1) (xs ++ [nm, pv, kp])) (hp3 : w3.ownsRow h 68 1 pv m ps) (hg : (w3.alloc (.cells #[pw] 68)).grownBy w7 pv.ownBlock) :
   RdBox r c0 c1 c2 (.slice (some ⟨g1, 0, none⟩) (k + 1) cap1) c4 c5 c6 c7 c8 wv w7 ∧ w7.ownsRow h 63 3 (.slice (some ⟨g1, 0, none⟩) (k + 1) cap1) (k + 1) (xs ++ [nm, pv, kp]) ∧ w7.cell? ⟨g1, k * 3 + 1, none⟩ = some pv ∧ w7.frozen? ⟨g1, k * 3 + 1, none⟩ = false := by
 have hba := below_alloc (Below.refl _ w3) (.cells #[pw] 68)
 have ho7 := own_kept_apart (World.ownsRow.upB ho3 hba) (World.ownsRow.upB hp3 hba) (by decide) hg
 refine ⟨not_own_pushed hp3 hx3 (rd_has hx3 hp3 (by decide)) hg, ho7, ?_, World.ownsRow.frozenAt ho7 _⟩
 rw [World.ownsRow.cellAt ho7 (k * 3 + 1) (by omega), List.getElem?_append_right (by omega), hxl, Nat.add_sub_cancel_left]
 rfl
theorem fin_prog {r h k m g1 cap1 g cap : Nat} {c0 c1 c2 c4 c5 c6 c7 c8 wv nm pv kp pw : Value} {xs ps : List Value} {l : List (Int × Int)} {w w3 w7 : World} (hb : Below w.heap.size w w3) (hxl : xs.length = k * 3) (hx3 : RdBox r c0 c1 c2 (.slice (some ⟨g1, 0, none⟩) (k + 1) cap1) c4 c5 c6 c7 c8 wv w3)
   (ho3 : w3.ownsRow h 63 3 (.slice (some ⟨g1, 0, none⟩) (k + 1) cap1) (k + 1) (xs ++ [nm, pv, kp])) (hp3 : w3.ownsRow h 68 1 pv m ps) (hpw : OwnStp w.heap.size w3 pw l)
   (hown : w7.ownsRow h 68 1 (.slice (some ⟨g, 0, none⟩) (m + 1) cap) (m + 1) (ps ++ [pw])) (hg : (w3.alloc (.cells #[pw] 68)).grownBy w7 pv.ownBlock) (hat : pv.ownBlock = some g ∨ g = (w3.alloc (.cells #[pw] 68)).heap.size) :
   RdBox r c0 c1 c2 (.slice (some ⟨g1, 0, none⟩) (k + 1) cap1) c4 c5 c6 c7 c8 wv (w7.setCell ⟨g1, k * 3 + 1, none⟩ (.slice (some ⟨g, 0, none⟩) (m + 1) cap)) ∧ (w7.setCell ⟨g1, k * 3 + 1, none⟩ (.slice (some ⟨g, 0, none⟩) (m + 1) cap)).ownsRow h 63 3 (.slice (some ⟨g1, 0, none⟩) (k + 1) cap1) (k + 1) (xs ++ [nm, .slice (some ⟨g, 0, none⟩) (m + 1) cap, kp]) ∧
     (w7.setCell ⟨g1, k * 3 + 1, none⟩ (.slice (some ⟨g, 0, none⟩) (m + 1) cap)).ownsRow h 68 1 (.slice (some ⟨g, 0, none⟩) (m + 1) cap) (m + 1) (ps ++ [pw]) ∧ OwnStp w.heap.size (w7.setCell ⟨g1, k * 3 + 1, none⟩ (.slice (some ⟨g, 0, none⟩) (m + 1) cap)) pw l ∧ Alters (fun b => b = g1 ∨ some b = pv.ownBlock) w (w7.setCell ⟨g1, k * 3 + 1, none⟩ (.slice (some ⟨g, 0, none⟩) (m + 1) cap)) ∧ (pv.ownBlock = some g ∨ w.heap.size ≤ g) := by
 obtain ⟨hx7, ho7, -, -⟩ := prog7 hxl hx3 ho3 hp3 hg
 have hba := below_alloc (Below.refl _ w3) (.cells #[pw] 68)
 have hal := alters_cell w7 g1 (k * 3 + 1) (.slice (some ⟨g, 0, none⟩) (m + 1) cap)
 obtain ⟨hs1, hs2⟩ := World.ownsRow.stored ho7 (k * 3 + 1) (.slice (some ⟨g, 0, none⟩) (m + 1) cap)
 rw [set_last hxl] at hs1
 have hg1 : ¬ some r = (Value.slice (some ⟨g1, 0, none⟩) (k + 1) cap1).ownBlock := rd_has hx7 ho7 (by decide)
 have hpwa := World.ownsRow.upB hpw hba
 have hpw7 := own_kept_apart hpwa (World.ownsRow.upB hp3 hba) (by decide) hg
 refine ⟨?_, hs1, own_kept_apart hown ho7 (by decide) hs2, own_kept_apart hpw7 ho7 (by decide) hs2, ?_, ?_⟩
 · exact (hal.block r (bx_lt hx7) (fun e => hg1 (by rw [show r = g1 from e]; rfl))).trans hx7
 · exact (((Alters.of_below hb).trans (Alters.of_below hba)).trans ((Alters.of_grown hg).mono (fun _ _ h => .inr h))).trans (hal.mono (fun _ _ h => .inl h))
 · rcases hat with e | e
   · exact .inl e
   · exact .inr (by rw [e]; exact Nat.le_trans hb.size hba.size)
set_option maxRecDepth 100000 in
theorem addProg_any (r h k m g1 cap1 : Nat) (c0 c1 c2 c4 c5 c6 c7 c8 wv nm pv kp : Value) (xs ps : List Value) (s : List UInt8) (w : World) (hx : RdBox r c0 c1 c2 (.slice (some ⟨g1, 0, none⟩) (k + 1) cap1) c4 c5 c6 c7 c8 wv w)
   (ho : w.ownsRow h 63 3 (.slice (some ⟨g1, 0, none⟩) (k + 1) cap1) (k + 1) (xs ++ [nm, pv, kp])) (hp : w.ownsRow h 68 1 pv m ps) (hk : k < 1000) (hm : m < 1000) (hh : h ≤ w.heap.size) (hs : s.length < 4294967281) (hL : LibIn w) :
   Calls Tryz.prog 97 #[.pointer (some ⟨r, 0, none⟩), .string ⟨s.toArray⟩] w fun e w' => (∃ v, e = .returned v) ∧ ∃ g cap pw, RdBox r c0 c1 c2 (.slice (some ⟨g1, 0, none⟩) (k + 1) cap1) c4 c5 c6 c7 c8 wv w' ∧ w'.ownsRow h 63 3 (.slice (some ⟨g1, 0, none⟩) (k + 1) cap1) (k + 1) (xs ++ [nm, .slice (some ⟨g, 0, none⟩) (m + 1) cap, kp]) ∧
     w'.ownsRow h 68 1 (.slice (some ⟨g, 0, none⟩) (m + 1) cap) (m + 1) (ps ++ [pw]) ∧ OwnStp w.heap.size w' pw (parseS s).1 ∧ Alters (fun b => b = g1 ∨ some b = pv.ownBlock) w w' ∧ (pv.ownBlock = some g ∨ w.heap.size ≤ g) := by
 have hxl : xs.length = k * 3 := by have := ho.1; simp at this; omega
 have q3 := bx_has hx 3 _ rfl
 have hd : Below w.heap.size w w.drew := (Below.refl _ w).drew
 have HP := Lib.hid (parse_any s hs)
 have t0 : decide ((((k + 1 : Nat) : Int)) = 0) = false := by simp; omega
 have t1 : (0 : Int) ≤ (((k + 1 : Nat) : Int)) - 1 := by omega
 have t2 : (((k + 1 : Nat) : Int)) - 1 < (((k + 1 : Nat) : Int)) := by omega
 have HO := Lib.hid ho
 have HPP := Lib.hid hp
 have HL := Lib.hid hL
 clear ho hp hL
 go_enter Tryz.func97, Tryz.ntmps97
 go_wp2
 go_quiet (fail)
 go_wp2_with fail
 generalize hWD : w.drewN nq = wD
 have hdD : Below w.heap.size w wD := hWD ▸ below_drewN_ (Below.refl _ w) nq
 have hszD : w.heap.size ≤ wD.heap.size := hdD.size
 refine (HP.out wD (HL.out.up hdD)).mono ?_
 rintro e w3 ⟨pw, rfl, hpw, hb3⟩
 obtain ⟨ta, tc, hte⟩ : ∃ ta tc, pw = .slice ta (parseS s).1.length tc := by
   rcases hpw.form with ⟨h1, h2⟩ | ⟨g, cap, h1, _⟩
   · exact ⟨none, 0, by rw [h1, h2]; rfl⟩
   · exact ⟨_, _, h1⟩
 subst hte
 have hb03 := below_step hdD hb3
 have hx3 : RdBox r c0 c1 c2 (.slice (some ⟨g1, 0, none⟩) (k + 1) cap1) c4 c5 c6 c7 c8 wv w3 := (hb03.block r (bx_lt hx)).trans hx
 have ho3 := World.ownsRow.upB HO.out hb03
 have hp3 := World.ownsRow.upB HPP.out hb03
 have qp := World.ownsRow.cellAt ho3 (k * 3 + 1) (by omega)
 have e1 : (xs ++ [nm, pv, kp])[k * 3 + 1]? = some pv := by rw [List.getElem?_append_right (by omega), hxl, Nat.add_sub_cancel_left]; rfl
 rw [e1] at qp
 have HP3 := Lib.hid hp3
 have HSZ : Hid (h ≤ w3.heap.size) := Lib.hid (Nat.le_trans hh hb03.size)
 have HF7 := Lib.hid (fun (w7 : World) (hg : (w3.alloc (.cells #[.slice ta (parseS s).1.length tc] 68)).grownBy w7 pv.ownBlock) => prog7 hxl hx3 ho3 hp3 hg)
 have HFIN := Lib.hid (fun (g cap : Nat) (w7 : World) (hown : w7.ownsRow h 68 1 (.slice (some ⟨g, 0, none⟩) (m + 1) cap) (m + 1) (ps ++ [.slice ta (parseS s).1.length tc])) (hg : (w3.alloc (.cells #[.slice ta (parseS s).1.length tc] 68)).grownBy w7 pv.ownBlock) (hat : pv.ownBlock = some g ∨ g = (w3.alloc (.cells #[.slice ta (parseS s).1.length tc] 68)).heap.size) => fin_prog hb03 hxl hx3 ho3 hp3 (OwnStp.mono hpw hszD) hown hg hat)
 clear hWD hx hx3 ho3 hp3 hpw hb03 hb3 hdD
 go_wp2_with (at_builtin; go_loud (refine wpList_pushC rfl 61 68 (.slice none 0 0) 1 24 Tryz.underlying61 info_progC rfl (by decide) (by decide) (.tmp 36) (.tmp 38) rfl h pv m ps rfl (World.ownsRow.alloc HP3.out _) (by omega) (by rw [World.size_alloc]; exact Nat.le_succ_of_le HSZ.out) w3.heap.size 1 [.slice ta (parseS s).1.length tc] rfl rfl (World.alloc_heap_new _ _) (by simp [Value.oneCell']) ?_; intro g cap w7 hown hg hat; obtain ⟨-, -, q7, f7⟩ := HF7.out w7 hg; have HR := Lib.hid (HFIN.out g cap w7 hown hg hat); clear hown hg hat))
 go_end0
 exact ⟨⟨_, rfl⟩, g, cap, _, HR.out⟩
end Go.Proofs.YtbmcngoeinginaaGreatDoor
namespace Go.Proofs.YtbmcngoeinginaaGreatDoor
open Go Go.RowKit Go.Lib
theorem join_words (wv : Value) (ws : List (List UInt8)) (w : World) (hw : WordsIn w wv ws) (hl : ws.length ≤ 1000) (hj : (Lib.join ws [32]).length < 4294967281) :
   Calls Tryz.prog 68 #[wv, .string ⟨#[32]⟩] w fun e w' => e = .returned (.string ⟨(Lib.join ws [32]).toArray⟩) ∧ Below w.heap.size w w' := by
 obtain ⟨a, c, rfl, hc, h⟩ := hw
 rcases h with rfl | ⟨b, off, cs, rfl, hb, hcell⟩
 · refine (Tryz.strings_Join_none a c ⟨#[32]⟩ w).mono ?_
   rintro e w' ⟨rfl, rfl⟩;exact ⟨by simp [Lib.join, List.intercalate], Below.refl _ _⟩
 · have hm : (ws.map fun t => (⟨t.toArray⟩ : ByteArray)).map (·.data.toList) = ws := by rw [List.map_map]; exact (List.map_congr_left (fun x _ => rfl)).trans (List.map_id _)
   have hJ := Tryz.strings_Join b off c (ws.map fun t => (⟨t.toArray⟩ : ByteArray)) ⟨#[32]⟩ w (fun j x hx => by
     rw [List.getElem?_map] at hx
     rcases Nat.lt_or_ge j ws.length with hj | hj
     · rw [List.getElem?_eq_getElem hj] at hx
       have hx : _ = x := Option.some.inj hx;subst hx;unfold World.cell?;rw [hb];exact hcell j hj
     · rw [List.getElem?_eq_none hj] at hx; cases hx) (Array.getElem?_eq_some_iff.1 hb).1 (by rw [List.length_map]; omega) (by rw [List.length_map]; exact hc) (by rw [hm]; exact Nat.le_trans (Nat.le_of_lt hj) (by decide))
   rw [hm, List.length_map] at hJ;exact hJ
set_option maxRecDepth 100000 in
theorem line5_gen (r rr : Nat) (c0 c1 c2 c3 c4 c5 c6 c7 c8 wv : Value) (ws : List (List UInt8)) (w : World) (hrr : w.cell? ⟨rr, 0, none⟩ = some (.pointer (some ⟨r, 0, none⟩))) (hx : RdBox r c0 c1 c2 c3 c4 c5 c6 c7 c8 wv w) (hw : WordsIn w wv ws) (hl : ws.length ≤ 1000) (hj : (Lib.join ws [32]).length < 4294967281) (Q : World → Prop)
   (hA : ∀ W, Below w.heap.size w W → Calls Tryz.prog 97 #[.pointer (some ⟨r, 0, none⟩), .string ⟨(Lib.join ws [32]).toArray⟩] W fun e w' => (∃ v, e = .returned v) ∧ Q w' ∧ w'.cell? ⟨rr, 0, none⟩ = some (.pointer (some ⟨r, 0, none⟩))) :
   Calls Tryz.prog 96 #[.pointer (some ⟨rr, 0, none⟩)] w fun e w' => (∃ v, e = .returned v) ∧ Q w' := by
 have hd : Below w.heap.size w w.drew := (Below.refl _ w).drew
 have q9 := bx_has (show RdBox r c0 c1 c2 c3 c4 c5 c6 c7 c8 wv w.drew from hx) 9 _ rfl
 have HJ := Lib.hid (join_words wv ws w.drew (hw.up hd) hl hj)
 have HA := Lib.hid hA
 have hrd : w.drew.cell? ⟨rr, 0, none⟩ = some (.pointer (some ⟨r, 0, none⟩)) := hrr
 clear hx hw hrr hA
 go_enter Tryz.func96, Tryz.ntmps96
 refine wp_region_held_drew (S := fun W => W.cell? ⟨rr, 0, none⟩ = some (.pointer (some ⟨r, 0, none⟩))) (by kernel_rfl) hrd (fun hHeld => ?_)
 generalize w.drew = wD at *
 refine TK 0 ?_
 (try simp only [pS])
 refine TK 1 ?_
 (try simp only [pS])
 refine TK 2 ?_
 (try simp only [pS])
 refine TK 3 ?_
 (try simp only [pS])
 refine wpAnyH_ready (rs := [4]) (by kernel_rfl) (by simp) ?_
 refine AC (fun K hK => ?_) AllReadyH.nil
 go_simp
 refine hK.out _ _ hrd (fun _ => ?_)
 clear hK K
 (try simp only [pS])
 refine wpAnyH_ready (rs := [5]) (by kernel_rfl) (by simp) ?_
 refine AC (fun K hK => ?_) AllReadyH.nil
 refine step_call_h rfl 68 _ _ #[wv, .string ⟨#[32]⟩] rfl rfl (enters_of Tryz.func68 (by kernel_rfl) rfl) (HJ.out.mono ?_)
 rintro e w2 ⟨rfl, hb2⟩
 have hrr2 := cell_keep hb2 hrd
 refine ⟨_, rfl, hK.out _ _ hrr2 (fun _ => ?_)⟩
 clear hK K
 (try simp only [pS])
 refine wpAnyH_ready (rs := [6]) (by kernel_rfl) (by simp) ?_
 refine AC (fun K hK => ?_) AllReadyH.nil
 refine step_call_h rfl 97 _ _ #[.pointer (some ⟨r, 0, none⟩), .string ⟨(Lib.join ws [32]).toArray⟩] rfl rfl (enters_of Tryz.func97 (by kernel_rfl) rfl) ((HA.out w2 (below_step hd hb2)).mono ?_)
 rintro e w3 ⟨⟨v, rfl⟩, hQ, hrr3⟩
 refine ⟨_, rfl, hK.out _ _ hrr3 (fun _ => ?_)⟩
 clear hK K
 refine wpAnyH_done (by kernel_rfl) ?_ _
 have HQ := Lib.hid hQ
 clear hQ
 go_wp2
 go_end0
 exact ⟨⟨_, rfl⟩, HQ.out⟩
end Go.Proofs.YtbmcngoeinginaaGreatDoor
namespace Go.Proofs.YtbmcngoeinginaaGreatDoor
open Go Go.RowKit Go.Lib Go.MapKept Go.ChangeMaps
def keysF : List (List UInt8 × Nat) := [([98, 111, 97, 114, 100], 90), ([100, 105, 114], 92), ([116, 117, 114, 110], 94), ([107, 105, 110, 100], 95), ([112, 114, 111, 103], 96), ([114, 105, 103, 104, 116, 115], 98), ([109, 117, 115, 116], 99), ([108, 97, 99, 107, 115], 100), ([104, 111, 108, 100, 115], 104), ([102, 101, 119], 105), ([98, 108, 111, 99, 107, 101, 100], 106), ([101, 110, 100, 108, 101, 115, 115], 107)]
def fnV (rr n : Nat) : Value := .func (.func n) #[] #[.pointer (some ⟨rr, 0, none⟩)]
def entF (rr i : Nat) (p : List UInt8 × Nat) : MapEntry := ⟨.string ⟨p.1.toArray⟩, fnV rr p.2, i⟩
def entsFrom (rr : Nat) : Nat → List (List UInt8 × Nat) → List MapEntry
 | _, [] => []
 | i, p :: t => entF rr i p :: entsFrom rr (i + 1) t
def entsF (rr n : Nat) : List MapEntry := entsFrom rr 0 (keysF.take n)
theorem entsFrom_snoc (rr : Nat) (p : List UInt8 × Nat) : ∀ (l : List (List UInt8 × Nat)) (i : Nat), entsFrom rr i (l ++ [p]) = entsFrom rr i l ++ [entF rr (i + l.length) p]
 | [], i => by simp [entsFrom]
 | x :: t, i => by
   simp only [List.cons_append, entsFrom, entsFrom_snoc rr p t (i + 1), List.length_cons];rw [show i + 1 + t.length = i + (t.length + 1) by omega]
theorem str_beq (a b : List UInt8) : ((⟨a.toArray⟩ : ByteArray) == ⟨b.toArray⟩) = (b == a) := by
 rw [Bool.eq_iff_iff, bytes_beq, beq_iff_eq]
 constructor
 · intro e
   have := congrArg (·.data.toList) e
   simpa using this.symm
 · rintro rfl; rfl
theorem findNow_look (rr : Nat) (s : List UInt8) : ∀ (l : List (List UInt8 × Nat)) (i k : Nat), ∃ j, Instr.findNow .string (.string ⟨s.toArray⟩) (entsFrom rr i l) k = some ((l.find? (fun p => p.1 == s)).map fun p => (j, fnV rr p.2))
 | [], _, _ => ⟨0, rfl⟩
 | x :: t, i, k => by
   obtain ⟨j, hj⟩ := findNow_look rr s t (i + 1) (k + 1)
   by_cases h : (x.1 == s) = true
   · refine ⟨k, ?_⟩
     unfold entsFrom Instr.findNow entF Instr.sameNow;simp only [str_beq, h, List.find?_cons_of_pos, Option.map_some]
   · have h : (x.1 == s) = false := by simpa using h
     refine ⟨j, ?_⟩;unfold entsFrom Instr.findNow entF Instr.sameNow;simp only [str_beq, h];rw [hj, List.find?_cons_of_neg (by simp [h])]
def MapF (rr m : Nat) (W : World) : Prop := W.heap[m]? = some (.map (entsF rr 12).toArray 12)
theorem run_insertC {P : Program} {w : World} (t kt et : TypeId) (b clock : Nat) (es : Array MapEntry) (s : ByteArray) (val : Value) (hm : P.underlying t = some (.map kt et)) (hk : P.underlying kt = some .string) (hb : w.heap[b]? = some (.map es clock)) (hf : Instr.findNow .string (.string s) es.toList 0 = some none) :
   (Instr.mapUpdate t (.map (some b)) (.string s) val).run P w = .ok () (setBlock w b (.map (es.push { key := .string s, val := val, born := clock }) (clock + 1))) := by
 have hc : (Instr.checkKey false 10000 kt (.string s)).run P w = .ok () w := MapKept.run_checkKey (k := .string s) hk (by simp [MapKept.IsKey]) false 9999
 simp [Instr.mapUpdate, run_underlying hm, MapKept.run_getObj_map hb, hc, MapKept.run_findKey hk hf, MapKept.run_setObj_map _ hb, Result.andThen, setBlock]
theorem low_setBlock {n : Nat} {w W : World} {b : Nat} {es : Array MapEntry} {clock : Nat} (h : Below n w W) (hb : W.heap[b]? = some (.map es clock)) (hn : n ≤ b) (o : Obj) : Below n w (setBlock W b o) :=
 ⟨h.os, h.tape, h.output, Nat.le_trans h.size (by simp [setBlock]), fun k hk => (heap_setBlock_other hb o (by omega)).trans (h.block k hk)⟩
structure InsAt (w : World) (r i : Nat) (W : World) : Prop where
 map : W.heap[w.heap.size + 1]? = some (.map (entsF w.heap.size i).toArray i)
 rr : W.cell? ⟨w.heap.size, 0, none⟩ = some (.pointer (some ⟨r, 0, none⟩))
 low : Below w.heap.size w W
theorem InsAt.next {w W : World} {r i : Nat} (h : InsAt w r i W) (p : List UInt8 × Nat) (hp : keysF[i]? = some p) : InsAt w r (i + 1) (setBlock W (w.heap.size + 1) (.map ((entsF w.heap.size i).toArray.push { key := .string ⟨p.1.toArray⟩, val := fnV w.heap.size p.2, born := i }) (i + 1))) := by
 have hi : i < keysF.length := (List.getElem?_eq_some_iff.1 hp).1
 have e : entsF w.heap.size (i + 1) = entsF w.heap.size i ++ [entF w.heap.size i p] := by
   unfold entsF;rw [List.take_add_one, hp];simp only [Option.toList_some];rw [entsFrom_snoc, List.length_take, Nat.min_eq_left (by omega), Nat.zero_add]
 refine ⟨?_, ?_, low_setBlock h.low h.map (by omega) _⟩
 · rw [heap_setBlock_same h.map, e]
   simp [entF]
 · exact (World.cell?_of_block (a := ⟨w.heap.size, 0, none⟩) (heap_setBlock_other h.map _ (by simp))).trans h.rr
theorem none_of {rr i : Nat} {p : List UInt8 × Nat} (h : (keysF.take i).find? (fun q => q.1 == p.1) = none) : Instr.findNow .string (.string ⟨p.1.toArray⟩) (entsF rr i).toArray.toList 0 = some none := by
 obtain ⟨j, hj⟩ := findNow_look rr p.1 (keysF.take i) 0 0
 unfold entsF
 rw [hj, h]
 rfl
theorem InsAt.run {w W : World} {r i : Nat} (h : InsAt w r i W) (p : List UInt8 × Nat) (hn : (keysF.take i).find? (fun q => q.1 == p.1) = none) :
   (Instr.mapUpdate 113 (.map (some (w.heap.size + 1))) (.string ⟨p.1.toArray⟩) (fnV w.heap.size p.2)).run Tryz.prog W = .ok () (setBlock W (w.heap.size + 1) (.map ((entsF w.heap.size i).toArray.push { key := .string ⟨p.1.toArray⟩, val := fnV w.heap.size p.2, born := i }) (i + 1))) :=
 run_insertC _ _ _ _ _ _ _ _ Tryz.underlying113 Tryz.underlying9 h.map (none_of hn)
set_option maxRecDepth 100000 in
theorem lines_any (r : Nat) (w : World) :
   Calls Tryz.prog 63 #[.pointer (some ⟨r, 0, none⟩)] w fun e w' => e = .returned (.map (some (w.heap.size + 1))) ∧ MapF w.heap.size (w.heap.size + 1) w' ∧ w'.cell? ⟨w.heap.size, 0, none⟩ = some (.pointer (some ⟨r, 0, none⟩)) ∧ Below w.heap.size w w' := by
 have hmm := @run_makeMap Tryz.prog
 have h0 : InsAt w r 0 ((w.alloc (.cells #[.pointer (some ⟨r, 0, none⟩)] 110)).alloc (.map #[] 0)) := by
   refine ⟨?_, ?_, below_step (below_alloc (Below.refl _ w) _) (below_alloc (Below.refl _ _) _)⟩
   · have := World.alloc_heap_new (w.alloc (.cells #[.pointer (some ⟨r, 0, none⟩)] 110)) (.map #[] 0)
     rw [World.size_alloc] at this;exact this
   · exact cell_alloc_keep (cell_new_at _ _ _ _ _ _ rfl rfl) _
 go_enter Tryz.func63, Tryz.ntmps63
 go_wp2_with fail
 have hr0 := h0.run ([98, 111, 97, 114, 100], 90) (by decide)
 have h1 := h0.next ([98, 111, 97, 114, 100], 90) rfl
 generalize setBlock _ _ _ = W1 at hr0 h1
 rw [show (Instr.mapUpdate 113 (.map (some (w.heap.size + 1))) (.string ⟨#[98, 111, 97, 114, 100]⟩) (.func (.func 90) #[] #[.pointer (some ⟨w.heap.size, 0, none⟩)])).run Tryz.prog _ = _ from hr0]
 simp only [Result.andThen]
 clear hr0 h0
 go_wp2_with fail
 have hr1 := h1.run ([100, 105, 114], 92) (by decide)
 have h2 := h1.next ([100, 105, 114], 92) rfl
 generalize setBlock _ _ _ = W2 at hr1 h2
 rw [show (Instr.mapUpdate 113 (.map (some (w.heap.size + 1))) (.string ⟨#[100, 105, 114]⟩) (.func (.func 92) #[] #[.pointer (some ⟨w.heap.size, 0, none⟩)])).run Tryz.prog _ = _ from hr1]
 simp only [Result.andThen]
 clear hr1 h1
 go_wp2_with fail
 have hr2 := h2.run ([116, 117, 114, 110], 94) (by decide)
 have h3 := h2.next ([116, 117, 114, 110], 94) rfl
 generalize setBlock _ _ _ = W3 at hr2 h3
 rw [show (Instr.mapUpdate 113 (.map (some (w.heap.size + 1))) (.string ⟨#[116, 117, 114, 110]⟩) (.func (.func 94) #[] #[.pointer (some ⟨w.heap.size, 0, none⟩)])).run Tryz.prog _ = _ from hr2]
 simp only [Result.andThen]
 clear hr2 h2
 go_wp2_with fail
 have hr3 := h3.run ([107, 105, 110, 100], 95) (by decide)
 have h4 := h3.next ([107, 105, 110, 100], 95) rfl
 generalize setBlock _ _ _ = W4 at hr3 h4
 rw [show (Instr.mapUpdate 113 (.map (some (w.heap.size + 1))) (.string ⟨#[107, 105, 110, 100]⟩) (.func (.func 95) #[] #[.pointer (some ⟨w.heap.size, 0, none⟩)])).run Tryz.prog _ = _ from hr3]
 simp only [Result.andThen]
 clear hr3 h3
 go_wp2_with fail
 have hr4 := h4.run ([112, 114, 111, 103], 96) (by decide)
 have h5 := h4.next ([112, 114, 111, 103], 96) rfl
 generalize setBlock _ _ _ = W5 at hr4 h5
 rw [show (Instr.mapUpdate 113 (.map (some (w.heap.size + 1))) (.string ⟨#[112, 114, 111, 103]⟩) (.func (.func 96) #[] #[.pointer (some ⟨w.heap.size, 0, none⟩)])).run Tryz.prog _ = _ from hr4]
 simp only [Result.andThen]
 clear hr4 h4
 go_wp2_with fail
 have hr5 := h5.run ([114, 105, 103, 104, 116, 115], 98) (by decide)
 have h6 := h5.next ([114, 105, 103, 104, 116, 115], 98) rfl
 generalize setBlock _ _ _ = W6 at hr5 h6
 rw [show (Instr.mapUpdate 113 (.map (some (w.heap.size + 1))) (.string ⟨#[114, 105, 103, 104, 116, 115]⟩) (.func (.func 98) #[] #[.pointer (some ⟨w.heap.size, 0, none⟩)])).run Tryz.prog _ = _ from hr5]
 simp only [Result.andThen]
 clear hr5 h5
 go_wp2_with fail
 have hr6 := h6.run ([109, 117, 115, 116], 99) (by decide)
 have h7 := h6.next ([109, 117, 115, 116], 99) rfl
 generalize setBlock _ _ _ = W7 at hr6 h7
 rw [show (Instr.mapUpdate 113 (.map (some (w.heap.size + 1))) (.string ⟨#[109, 117, 115, 116]⟩) (.func (.func 99) #[] #[.pointer (some ⟨w.heap.size, 0, none⟩)])).run Tryz.prog _ = _ from hr6]
 simp only [Result.andThen]
 clear hr6 h6
 go_wp2_with fail
 have hr7 := h7.run ([108, 97, 99, 107, 115], 100) (by decide)
 have h8 := h7.next ([108, 97, 99, 107, 115], 100) rfl
 generalize setBlock _ _ _ = W8 at hr7 h8
 rw [show (Instr.mapUpdate 113 (.map (some (w.heap.size + 1))) (.string ⟨#[108, 97, 99, 107, 115]⟩) (.func (.func 100) #[] #[.pointer (some ⟨w.heap.size, 0, none⟩)])).run Tryz.prog _ = _ from hr7]
 simp only [Result.andThen]
 clear hr7 h7
 go_wp2_with fail
 have hr8 := h8.run ([104, 111, 108, 100, 115], 104) (by decide)
 have h9 := h8.next ([104, 111, 108, 100, 115], 104) rfl
 generalize setBlock _ _ _ = W9 at hr8 h9
 rw [show (Instr.mapUpdate 113 (.map (some (w.heap.size + 1))) (.string ⟨#[104, 111, 108, 100, 115]⟩) (.func (.func 104) #[] #[.pointer (some ⟨w.heap.size, 0, none⟩)])).run Tryz.prog _ = _ from hr8]
 simp only [Result.andThen]
 clear hr8 h8
 go_wp2_with fail
 have hr9 := h9.run ([102, 101, 119], 105) (by decide)
 have h10 := h9.next ([102, 101, 119], 105) rfl
 generalize setBlock _ _ _ = W10 at hr9 h10
 rw [show (Instr.mapUpdate 113 (.map (some (w.heap.size + 1))) (.string ⟨#[102, 101, 119]⟩) (.func (.func 105) #[] #[.pointer (some ⟨w.heap.size, 0, none⟩)])).run Tryz.prog _ = _ from hr9]
 simp only [Result.andThen]
 clear hr9 h9
 go_wp2_with fail
 have hr10 := h10.run ([98, 108, 111, 99, 107, 101, 100], 106) (by decide)
 have h11 := h10.next ([98, 108, 111, 99, 107, 101, 100], 106) rfl
 generalize setBlock _ _ _ = W11 at hr10 h11
 rw [show (Instr.mapUpdate 113 (.map (some (w.heap.size + 1))) (.string ⟨#[98, 108, 111, 99, 107, 101, 100]⟩) (.func (.func 106) #[] #[.pointer (some ⟨w.heap.size, 0, none⟩)])).run Tryz.prog _ = _ from hr10]
 simp only [Result.andThen]
 clear hr10 h10
 go_wp2_with fail
 have hr11 := h11.run ([101, 110, 100, 108, 101, 115, 115], 107) (by decide)
 have h12 := h11.next ([101, 110, 100, 108, 101, 115, 115], 107) rfl
 generalize setBlock _ _ _ = W12 at hr11 h12
 rw [show (Instr.mapUpdate 113 (.map (some (w.heap.size + 1))) (.string ⟨#[101, 110, 100, 108, 101, 115, 115]⟩) (.func (.func 107) #[] #[.pointer (some ⟨w.heap.size, 0, none⟩)])).run Tryz.prog _ = _ from hr11]
 simp only [Result.andThen]
 clear hr11 h11
 go_wp2_with fail
 go_ret
 exact ⟨rfl, h12.map, h12.rr, h12.low⟩
theorem zero_func (w : World) : (zeroValue 1).run Tryz.prog w = .ok .nilFunc w := by kernel_rfl
def lookF (s : List UInt8) : Option Nat := (keysF.find? (fun p => p.1 == s)).map (·.2)
theorem run_lookF {rr m : Nat} {w : World} (h : MapF rr m w) (s : List UInt8) :
   (Instr.lookup 113 (.map (some m)) (.string ⟨s.toArray⟩) true).run Tryz.prog w = .ok (match lookF s with | some n => .tuple #[fnV rr n, .bool true] | none => .tuple #[.nilFunc, .bool false]) w := by
 have hz := zero_func w
 have hc : (Instr.checkKey false 10000 9 (.string ⟨s.toArray⟩)).run Tryz.prog w = .ok () w := MapKept.run_checkKey (k := .string ⟨s.toArray⟩) Tryz.underlying9 (by simp [MapKept.IsKey]) false 9999
 obtain ⟨j, hj⟩ := findNow_look rr s (keysF.take 12) 0 0
 have hj : Instr.findNow .string (.string ⟨s.toArray⟩) (entsF rr 12) 0 = _ := hj
 have hf := MapKept.run_findKey (w := w) (P := Tryz.prog) (kt := 9) Tryz.underlying9 hj
 have he : (entsF rr 12).toArray.isEmpty = false := rfl
 have e12 : keysF.take 12 = keysF := rfl
 unfold lookF
 rw [e12] at hf
 cases hq : keysF.find? (fun p => p.1 == s) with
 | none =>
   rw [hq] at hf
   simp [Instr.lookup, run_underlying Tryz.underlying113, MapKept.run_getObj_map h, he, hc, hf, hz, Result.andThen]
 | some p =>
   rw [hq] at hf
   simp [Instr.lookup, run_underlying Tryz.underlying113, MapKept.run_getObj_map h, he, hc, hf, Result.andThen]
end Go.Proofs.YtbmcngoeinginaaGreatDoor
namespace Go.Proofs.YtbmcngoeinginaaGreatDoor
open Go Go.RowKit Go.Lib
def NotT (T : TypeId) (S : Nat → Prop) (W : World) : Prop := ∀ b, S b → ∀ cs, W.heap[b]? ≠ some (.cells cs T (0, 0))
theorem own_alt {n size k : Nat} {W W' : World} {e : TypeId} {v : Value} {xs : List Value} {S : Nat → Prop} (h : W.ownsRow n e size v k xs) (ha : Alters S W W') (hn : NotT e S W) : W'.ownsRow n e size v k xs :=
 World.ownsRow.altR h ha (fun b hb hv => by
   obtain ⟨cs, e1⟩ := own_has_ h hv;exact hn b hb cs e1)
theorem notT_box {r : Nat} {c0 c1 c2 c3 c4 c5 c6 c7 c8 wv : Value} {W : World} (hx : RdBox r c0 c1 c2 c3 c4 c5 c6 c7 c8 wv W) {T : TypeId} (hT : T ≠ 112) : NotT T (fun b => b = r) W := fun b hb cs e => by
 have hb : b = r := hb
 subst hb
 rw [show W.heap[b]? = _ from hx] at e
 cases e
 exact hT rfl
theorem notT_own {h size k : Nat} {e : TypeId} {v : Value} {xs : List Value} {W : World} (ho : W.ownsRow h e size v k xs) {T : TypeId} (hT : T ≠ e) : NotT T (fun b => some b = v.ownBlock) W := fun b hb cs e1 => by
 obtain ⟨cs2, e2⟩ := own_has_ ho hb
 rw [e2] at e1
 cases e1
 exact hT rfl
theorem NotT.or {T : TypeId} {S S' : Nat → Prop} {W : World} (h : NotT T S W) (h' : NotT T S' W) : NotT T (fun b => S b ∨ S' b) W := fun b hb cs e => hb.elim (fun hs => h b hs cs e) (fun hs => h' b hs cs e)
def NextOwn (h : Nat) (W : World) (vn : Value) (l : List (List Int)) : Prop := ∃ rows, W.ownsRow h 32 1 vn l.length rows ∧ ∀ j (hj : j < l.length), ∃ v, rows[j]? = some v ∧ OwnInts h W v (l[j]'hj)
def ProgsOwn (h : Nat) (W : World) (pv : Value) (l : List (List (Int × Int))) : Prop := ∃ ps, W.ownsRow h 68 1 pv l.length ps ∧ ∀ j (hj : j < l.length), ∃ v, ps[j]? = some v ∧ OwnStp h W v (l[j]'hj)
def flatK : List KindD → List Value → List Value
 | k :: ks, p :: ps => .string ⟨k.name.toArray⟩ :: p :: .bool k.keep :: flatK ks ps
 | _, _ => []
def KindsOwn (h : Nat) (W : World) (vk : Value) (ks : List KindD) : Prop := ∃ pvs : List Value, pvs.length = ks.length ∧ W.ownsRow h 63 3 vk ks.length (flatK ks pvs) ∧
 (∀ i (hi : i < ks.length), ∃ pv, pvs[i]? = some pv ∧ ProgsOwn h W pv (ks[i]'hi).progs) ∧ ∀ (i j : Nat) (p q : Value), i < j → pvs[i]? = some p → pvs[j]? = some q → ∀ b, some b = p.ownBlock → ¬ some b = q.ownBlock
def flatC : List ClauseD → List Value
 | [] => []
 | c :: cs => .int .i64 c.cond :: .int .i64 c.kind :: .int .i64 c.n :: .int .i64 c.out :: flatC cs
theorem flatK_snoc (k : KindD) (p : Value) : ∀ (ks : List KindD) (ps : List Value), ps.length = ks.length → flatK (ks ++ [k]) (ps ++ [p]) = flatK ks ps ++ [.string ⟨k.name.toArray⟩, p, .bool k.keep]
 | [], [], _ => rfl
 | [], _ :: _, h => by simp at h
 | _ :: _, [], h => by simp at h
 | x :: ks, y :: ps, h => by
   simp only [List.cons_append, flatK];rw [flatK_snoc k p ks ps (by simpa using h)]
theorem flatC_snoc (c : ClauseD) : ∀ cs : List ClauseD, flatC (cs ++ [c]) = flatC cs ++ [.int .i64 c.cond, .int .i64 c.kind, .int .i64 c.n, .int .i64 c.out]
 | [] => rfl
 | x :: cs => by simp only [List.cons_append, flatC, flatC_snoc c cs]
theorem NextOwn.alt {h : Nat} {W W' : World} {vn : Value} {l : List (List Int)} {S : Nat → Prop} (hn : NextOwn h W vn l) (ha : Alters S W W') (h1 : NotT 32 S W) (h2 : NotT 3 S W) : NextOwn h W' vn l := by
 obtain ⟨rows, ho, hr⟩ := hn
 refine ⟨rows, own_alt ho ha h1, fun j hj => ?_⟩
 obtain ⟨v, e, hv⟩ := hr j hj
 exact ⟨v, e, own_alt hv ha h2⟩
theorem ProgsOwn.alt {h : Nat} {W W' : World} {pv : Value} {l : List (List (Int × Int))} {S : Nat → Prop} (hp : ProgsOwn h W pv l) (ha : Alters S W W') (h1 : ∀ b, S b → ¬ some b = pv.ownBlock) (h2 : NotT 91 S W) : ProgsOwn h W' pv l := by
 obtain ⟨ps, ho, hr⟩ := hp
 refine ⟨ps, World.ownsRow.altR ho ha h1, fun j hj => ?_⟩
 obtain ⟨v, e, hv⟩ := hr j hj
 exact ⟨v, e, own_alt hv ha h2⟩
theorem ProgsOwn.apart {h : Nat} {W : World} {pv : Value} {l : List (List (Int × Int))} {S : Nat → Prop} (hp : ProgsOwn h W pv l) (h1 : NotT 68 S W) : ∀ b, S b → ¬ some b = pv.ownBlock := fun b hb hv => by
 obtain ⟨ps, ho, _⟩ := hp
 obtain ⟨cs, e1⟩ := own_has_ ho hv
 exact h1 b hb cs e1
theorem KindsOwn.alt {h : Nat} {W W' : World} {vk : Value} {ks : List KindD} {S : Nat → Prop} (hk : KindsOwn h W vk ks) (ha : Alters S W W') (h0 : NotT 63 S W) (h1 : NotT 68 S W) (h2 : NotT 91 S W) : KindsOwn h W' vk ks := by
 obtain ⟨pvs, hl, ho, hp, hap⟩ := hk
 refine ⟨pvs, hl, own_alt ho ha h0, fun i hi => ?_, hap⟩
 obtain ⟨pv, e, hv⟩ := hp i hi
 exact ⟨pv, e, hv.alt ha (hv.apart h1) h2⟩
def RdG (h r : Nat) (W : World) (g : GameD) (wv : Value) : Prop := ∃ vn vt vk vc, RdBox r (.int .i64 g.b.cells) vn vt vk (.int .i64 g.rights) (.bool g.must) vc (.int .i64 g.blocked) (.int .i64 g.endless) wv W ∧
 NextOwn h W vn g.b.next ∧ OwnInts h W vt g.b.turn ∧ KindsOwn h W vk g.kinds ∧ W.ownsRow h 70 4 vc g.clauses.length (flatC g.clauses)
structure Few (n : Nat) (g : GameD) : Prop where
 next : g.b.next.length ≤ n
 kinds : g.kinds.length ≤ n
 progs : ∀ k ∈ g.kinds, k.progs.length ≤ n
 clauses : g.clauses.length ≤ n
theorem Few.mono {n m : Nat} {g : GameD} (h : Few n g) (hm : n ≤ m) : Few m g := ⟨Nat.le_trans h.next hm, Nat.le_trans h.kinds hm, fun k hk => Nat.le_trans (h.progs k hk) hm, Nat.le_trans h.clauses hm⟩
theorem KindsOwn.push {h r g cap : Nat} {W W' : World} {vk c0 c1 c2 c3 c4 c5 c6 c7 c8 wv d0 d1 d2 d3 d4 d5 d6 d7 d8 dv : Value} {ks : List KindD} {xs : List Value} {nm : List UInt8} {kp : Bool} (hx : RdBox r d0 d1 d2 d3 d4 d5 d6 d7 d8 dv W) (hk : KindsOwn h W vk ks) (hxs : W.ownsRow h 63 3 vk ks.length xs)
   (ha : Added r h 63 3 ks.length vk xs [.string ⟨nm.toArray⟩, .slice none 0 0, .bool kp] c0 c1 c2 c3 c4 c5 c6 c7 c8 wv g cap W W') : KindsOwn h W' (.slice (some ⟨g, 0, none⟩) (ks.length + 1) cap) (ks ++ [⟨nm, [], kp⟩]) := by
 obtain ⟨pvs, hl, ho, hp, hap⟩ := hk
 have hxe : xs = flatK ks pvs := by
   rcases ho.2 with ⟨e1, e2⟩ | ⟨g1, cap1, cur, e1, _, hc, _, _, _, ht⟩
   · have h1 := ho.1; have h2 := hxs.1
     rw [e2] at h1 h2;rw [List.length_eq_zero_iff.1 (h1.trans (Nat.zero_mul _)), List.length_eq_zero_iff.1 (h2.trans (Nat.zero_mul _))]
   · rcases hxs.2 with ⟨e3, _⟩ | ⟨g2, cap2, cur2, e3, _, hc2, _, _, _, ht2⟩
     · rw [e1] at e3; cases e3
     · rw [e1] at e3
       cases e3
       rw [hc] at hc2
       cases hc2
       rw [← ht, ← ht2]
 subst hxe
 have hnS : NotT 68 (fun b => b = r ∨ some b = vk.ownBlock) W := (notT_box hx (by decide)).or (notT_own ho (by decide))
 have hnT : NotT 91 (fun b => b = r ∨ some b = vk.ownBlock) W := (notT_box hx (by decide)).or (notT_own ho (by decide))
 refine ⟨pvs ++ [.slice none 0 0], by simp [hl], ?_, fun i hi => ?_, fun i j p q hij hp1 hq b hb1 hb2 => ?_⟩
 · rw [flatK_snoc _ _ _ _ hl, List.length_append]
   exact ha.own
 · rcases Nat.lt_or_ge i ks.length with hlt | hge
   · obtain ⟨pv, e, hv⟩ := hp i hlt
     refine ⟨pv, by rw [List.getElem?_append_left (by omega)]; exact e, ?_⟩
     have := hv.alt ha.alt (hv.apart hnS) hnT;rw [List.getElem_append_left hlt];exact this
   · have hi : i < ks.length + 1 := by simpa using hi
     have hi : i = ks.length := by omega
     subst hi
     refine ⟨.slice none 0 0, by rw [List.getElem?_append_right (by omega), hl]; simp, ?_⟩
     rw [List.getElem_append_right (by omega)];simp only [Nat.sub_self, List.getElem_cons_zero];exact ⟨[], World.ownsRow_nil _ _ _ _, fun j hj => absurd hj (by simp)⟩
 · rcases Nat.lt_or_ge j pvs.length with hlt | hge
   · rw [List.getElem?_append_left hlt] at hq
     rw [List.getElem?_append_left (by omega)] at hp1;exact hap i j p q hij hp1 hq b hb1 hb2
   · rw [List.getElem?_append_right hge] at hq
     rcases Nat.eq_zero_or_pos (j - pvs.length) with e0 | e0
     · rw [e0] at hq
       simp at hq
       subst hq
       cases hb2
     · rw [List.getElem?_eq_none (by simp; omega)] at hq
       cases hq
end Go.Proofs.YtbmcngoeinginaaGreatDoor
namespace Go.Proofs.YtbmcngoeinginaaGreatDoor
open Go Go.RowKit Go.Lib
theorem own_form {n size k : Nat} {W : World} {e : TypeId} {v : Value} {xs : List Value} (h : W.ownsRow n e size v k xs) : (v = .slice none 0 0 ∧ k = 0) ∨ ∃ g cap, v = .slice (some ⟨g, 0, none⟩) k cap ∧ n ≤ g ∧ g < W.heap.size ∧ ∀ j, j < k * size → W.cell? ⟨g, j, none⟩ = xs[j]? := by
 rcases h.2 with h1 | ⟨g, cap, cur, hv, hg, hc, _⟩
 · exact .inl h1
 · refine .inr ⟨g, cap, hv, hg, (Array.getElem?_eq_some_iff.1 hc).1, fun j hj => ?_⟩
   subst hv;exact World.ownsRow.cellAt h j hj
theorem stp_prg {n : Nat} {W : World} {v : Value} {l : List (Int × Int)} (h : OwnStp n W v l) : ∃ a cap, v = .slice a l.length cap ∧ Prg W.heap.size W a l := by
 rcases own_form h with ⟨rfl, e⟩ | ⟨g, cap, rfl, _, hlt, hc⟩
 · exact ⟨none, 0, by rw [e], .inl (List.length_eq_zero_iff.1 e)⟩
 · refine ⟨_, cap, rfl, .inr ⟨g, 0, rfl, hlt, fun j hj => ?_⟩⟩
   have hg := flatP_get l j hj;rw [Nat.zero_add, hc _ (by omega), hc _ (by omega)];exact hg.1.symm ▸ hg.2.symm ▸ ⟨rfl, rfl⟩
theorem ProgsOwn.in_ {h : Nat} {W : World} {pv : Value} {l : List (List (Int × Int))} (hp : ProgsOwn h W pv l) : ∃ a cap, pv = .slice a l.length cap ∧ ProgsIn W.heap.size W a l := by
 obtain ⟨ps, ho, hr⟩ := hp
 rcases own_form ho with ⟨rfl, e⟩ | ⟨g, cap, rfl, _, hlt, hc⟩
 · exact ⟨none, 0, by rw [e], .inl (List.length_eq_zero_iff.1 e)⟩
 · refine ⟨_, cap, rfl, .inr ⟨g, 0, rfl, hlt, fun j hj => ?_⟩⟩
   obtain ⟨v, e, hv⟩ := hr j hj;obtain ⟨a, c, rfl, hq⟩ := stp_prg hv;exact ⟨a, c, by rw [Nat.zero_add, hc j (by omega), e], hq⟩
theorem NextOwn.in_ {h : Nat} {W : World} {vn : Value} {l : List (List Int)} (hp : NextOwn h W vn l) : ∃ a cap, vn = .slice a l.length cap ∧ Rws W.heap.size W a l := by
 obtain ⟨ps, ho, hr⟩ := hp
 rcases own_form ho with ⟨rfl, e⟩ | ⟨g, cap, rfl, _, hlt, hc⟩
 · exact ⟨none, 0, by rw [e], .inl (List.length_eq_zero_iff.1 e)⟩
 · refine ⟨_, cap, rfl, .inr ⟨g, 0, rfl, hlt, fun j hj => ?_⟩⟩
   obtain ⟨v, e, hv⟩ := hr j hj;obtain ⟨a, c, rfl, hq⟩ := OwnInts.ints hv;rw [List.getElem?_eq_getElem hj, Option.getD_some];exact ⟨a, c, by rw [Nat.zero_add, hc j (by omega), e], hq⟩
theorem flatK_at : ∀ (ks : List KindD) (ps : List Value) (i : Nat) (hi : i < ks.length), ps.length = ks.length → (flatK ks ps)[i * 3]? = some (.string ⟨(ks[i]'hi).name.toArray⟩) ∧ (flatK ks ps)[i * 3 + 1]? = ps[i]? ∧ (flatK ks ps)[i * 3 + 2]? = some (.bool (ks[i]'hi).keep)
 | k :: ks, p :: ps, 0, _, _ => ⟨rfl, rfl, rfl⟩
 | k :: ks, p :: ps, i + 1, hi, h => by
   have := flatK_at ks ps i (by simpa using hi) (by simpa using h);rw [show (i + 1) * 3 = i * 3 + 3 by omega];exact this
theorem KindsOwn.in_ {h : Nat} {W : World} {vk : Value} {ks : List KindD} (hk : KindsOwn h W vk ks) : ∃ a cap, vk = .slice a ks.length cap ∧ KindsIn W.heap.size W a ks := by
 obtain ⟨pvs, hl, ho, hp, _⟩ := hk
 rcases own_form ho with ⟨rfl, e⟩ | ⟨g, cap, rfl, _, hlt, hc⟩
 · exact ⟨none, 0, by rw [e], .inl (List.length_eq_zero_iff.1 e)⟩
 · refine ⟨_, cap, rfl, .inr ⟨g, 0, rfl, hlt, fun i hi => ?_⟩⟩
   obtain ⟨h1, h2, h3⟩ := flatK_at ks pvs i hi hl;obtain ⟨pv, e, hv⟩ := hp i hi;obtain ⟨a, c, rfl, hq⟩ := hv.in_;rw [Nat.zero_add, hc _ (by omega), hc _ (by omega), hc _ (by omega)];exact ⟨h1, ⟨a, c, h2.trans e, hq⟩, h3⟩
theorem flatC_at : ∀ (cs : List ClauseD) (i : Nat) (hi : i < cs.length), (flatC cs)[i * 4]? = some (.int .i64 (cs[i]'hi).cond) ∧ (flatC cs)[i * 4 + 1]? = some (.int .i64 (cs[i]'hi).kind) ∧ (flatC cs)[i * 4 + 2]? = some (.int .i64 (cs[i]'hi).n) ∧ (flatC cs)[i * 4 + 3]? = some (.int .i64 (cs[i]'hi).out)
 | c :: cs, 0, _ => ⟨rfl, rfl, rfl, rfl⟩
 | c :: cs, i + 1, hi => by
   have := flatC_at cs i (by simpa using hi);rw [show (i + 1) * 4 = i * 4 + 4 by omega];exact this
theorem clauses_in {h : Nat} {W : World} {vc : Value} {cs : List ClauseD} (ho : W.ownsRow h 70 4 vc cs.length (flatC cs)) : ∃ a cap, vc = .slice a cs.length cap ∧ ClausesIn W.heap.size W a cs := by
 rcases own_form ho with ⟨rfl, e⟩ | ⟨g, cap, rfl, _, hlt, hc⟩
 · exact ⟨none, 0, by rw [e], .inl (List.length_eq_zero_iff.1 e)⟩
 · refine ⟨_, cap, rfl, .inr ⟨g, 0, rfl, hlt, fun i hi => ?_⟩⟩
   rw [Nat.zero_add, hc _ (by omega), hc _ (by omega), hc _ (by omega), hc _ (by omega)];exact flatC_at cs i hi
theorem RdG.game {h r : Nat} {W : World} {g : GameD} {wv : Value} (hr : RdG h r W g wv) : ∃ x, GameIn W.heap.size W x g ∧ W.heap[r]? = some (.cells ((g.cells x).push wv) 112 (0, 0)) := by
 obtain ⟨vn, vt, vk, vc, hx, hn, ht, hk, hc⟩ := hr
 obtain ⟨an, cn, rfl, h1⟩ := hn.in_
 obtain ⟨at_, ct, rfl, h2⟩ := OwnInts.ints ht
 obtain ⟨ak, ck, rfl, h3⟩ := hk.in_
 obtain ⟨ac, cc, rfl, h4⟩ := clauses_in hc
 exact ⟨⟨an, cn, at_, ct, ak, ck, ac, cc⟩, ⟨⟨h1, h2⟩, h3, h4⟩, hx⟩
theorem snoc_len {α : Type} {l : List α} {n : Nat} (h : l.length = n + 1) : ∃ a x, l = a ++ [x] ∧ a.length = n := by
 rcases List.eq_nil_or_concat l with e | ⟨a, x, e⟩
 · rw [e] at h; simp at h
 · refine ⟨a, x, by simpa using e, ?_⟩
   rw [e] at h
   simpa using h
theorem KindsOwn.last {h : Nat} {W : World} {vk : Value} {init : List KindD} {k : KindD} (hk : KindsOwn h W vk (init ++ [k])) : ∃ g1 cap1 pinit pv ps, vk = .slice (some ⟨g1, 0, none⟩) (init.length + 1) cap1 ∧ pinit.length = init.length ∧ W.ownsRow h 63 3 vk (init.length + 1) (flatK init pinit ++ [.string ⟨k.name.toArray⟩, pv, .bool k.keep]) ∧
   W.ownsRow h 68 1 pv k.progs.length ps ∧ (∀ j (hj : j < k.progs.length), ∃ v, ps[j]? = some v ∧ OwnStp h W v (k.progs[j]'hj)) ∧ (∀ i (hi : i < init.length), ∃ p, pinit[i]? = some p ∧ ProgsOwn h W p (init[i]'hi).progs) ∧
   (∀ (i j : Nat) (p q : Value), i < j → pinit[i]? = some p → pinit[j]? = some q → ∀ b, some b = p.ownBlock → ¬ some b = q.ownBlock) ∧ ∀ (i : Nat) (p : Value), pinit[i]? = some p → ∀ b, some b = p.ownBlock → ¬ some b = pv.ownBlock := by
 obtain ⟨pvs, hl, ho, hp, hap⟩ := hk
 obtain ⟨pinit, pv, rfl, hpl⟩ := snoc_len (show pvs.length = init.length + 1 by rw [hl]; simp)
 rw [flatK_snoc _ _ _ _ hpl, show (init ++ [k]).length = init.length + 1 by simp] at ho
 rcases own_form ho with ⟨_, e⟩ | ⟨g1, cap1, e, _⟩
 · omega
 · have hlast : (pinit ++ [pv])[init.length]? = some pv := by rw [← hpl]; simp
   obtain ⟨pv', e', ps, hps, hst⟩ := hp init.length (by simp);rw [hlast] at e'
   cases e'
   simp only [List.getElem_concat_length] at hps hst;refine ⟨g1, cap1, pinit, pv, ps, e, hpl, ho, hps, hst, fun i hi => ?_, fun i j p q hij h1 h2 => hap i j p q hij ?_ ?_, fun i p h1 => hap i init.length p pv ?_ ?_ hlast⟩
   · obtain ⟨p, e1, hv⟩ := hp i (by simp; omega)
     rw [List.getElem?_append_left (by omega)] at e1;rw [List.getElem_append_left hi] at hv;exact ⟨p, e1, hv⟩
   · rw [List.getElem?_append_left (List.getElem?_eq_some_iff.1 h1).1]; exact h1
   · rw [List.getElem?_append_left (List.getElem?_eq_some_iff.1 h2).1]; exact h2
   · have := (List.getElem?_eq_some_iff.1 h1).1; omega
   · rw [List.getElem?_append_left (List.getElem?_eq_some_iff.1 h1).1]; exact h1
end Go.Proofs.YtbmcngoeinginaaGreatDoor
namespace Go.Proofs.YtbmcngoeinginaaGreatDoor
open Go Go.RowKit Go.Lib
theorem prog_more {h m g g1 cap cap1 n : Nat} {w w' : World} {pv pw : Value} {l : List (Int × Int)} {k : KindD} {init : List KindD} {pinit ps : List Value} (hm : m = k.progs.length) (hn : n = w.heap.size) (hh : h ≤ n) (hpl : pinit.length = init.length)
   (ho : w.ownsRow h 63 3 (.slice (some ⟨g1, 0, none⟩) (init.length + 1) cap1) (init.length + 1) (flatK init pinit ++ [.string ⟨k.name.toArray⟩, pv, .bool k.keep]))
   (hps : w.ownsRow h 68 1 pv m ps) (hst : ∀ j (hj : j < k.progs.length), ∃ v, ps[j]? = some v ∧ OwnStp h w v (k.progs[j]'hj)) (hinit : ∀ i (hi : i < init.length), ∃ p, pinit[i]? = some p ∧ ProgsOwn h w p (init[i]'hi).progs)
   (hap : ∀ (i j : Nat) (p q : Value), i < j → pinit[i]? = some p → pinit[j]? = some q → ∀ b, some b = p.ownBlock → ¬ some b = q.ownBlock) (hlast : ∀ (i : Nat) (p : Value), pinit[i]? = some p → ∀ b, some b = p.ownBlock → ¬ some b = pv.ownBlock)
   (ho' : w'.ownsRow h 63 3 (.slice (some ⟨g1, 0, none⟩) (init.length + 1) cap1) (init.length + 1) (flatK init pinit ++ [.string ⟨k.name.toArray⟩, .slice (some ⟨g, 0, none⟩) (m + 1) cap, .bool k.keep]))
   (hps' : w'.ownsRow h 68 1 (.slice (some ⟨g, 0, none⟩) (m + 1) cap) (m + 1) (ps ++ [pw])) (hpw : OwnStp n w' pw l) (ha : Alters (fun b => b = g1 ∨ some b = pv.ownBlock) w w') (hat : pv.ownBlock = some g ∨ n ≤ g) :
   KindsOwn h w' (.slice (some ⟨g1, 0, none⟩) (init.length + 1) cap1) (init ++ [⟨k.name, k.progs ++ [l], k.keep⟩]) := by
 subst hm
 have hS1 : NotT 91 (fun b => b = g1) w := fun b hb => notT_own ho (T := 91) (by decide) b (by rw [show b = g1 from hb]; rfl)
 have hS : NotT 91 (fun b => b = g1 ∨ some b = pv.ownBlock) w := hS1.or (notT_own hps (by decide))
 have hP1 : NotT 68 (fun b => b = g1) w := fun b hb => notT_own ho (T := 68) (by decide) b (by rw [show b = g1 from hb]; rfl)
 have hpsl : ps.length = k.progs.length := by have := hps.1; omega
 have hkeep : ∀ (i : Nat) (p : Value) (l : List (List (Int × Int))), pinit[i]? = some p → ProgsOwn h w p l → ProgsOwn h w' p l := fun i p l e hv => hv.alt ha (fun b hb hbp => by
   rcases hb with hb | hb
   · exact hv.apart hP1 b hb hbp
   · exact hlast i p e b hbp hb) hS
 refine ⟨pinit ++ [.slice (some ⟨g, 0, none⟩) (k.progs.length + 1) cap], by simp [hpl], ?_, fun i hi => ?_, fun i j p q hij hp1 hq b hb1 hb2 => ?_⟩
 · rw [flatK_snoc _ _ _ _ hpl, show (init ++ [(⟨k.name, k.progs ++ [l], k.keep⟩ : KindD)]).length = init.length + 1 by simp]
   exact ho'
 · rcases Nat.lt_or_ge i init.length with hlt | hge
   · obtain ⟨p, e, hv⟩ := hinit i hlt
     refine ⟨p, by rw [List.getElem?_append_left (by omega)]; exact e, ?_⟩
     rw [List.getElem_append_left hlt];exact hkeep i p _ e hv
   · have hi : i < init.length + 1 := by simpa using hi
     have hi : i = init.length := by omega
     subst hi
     refine ⟨.slice (some ⟨g, 0, none⟩) (k.progs.length + 1) cap, by rw [← hpl]; simp, ?_⟩
     simp only [List.getElem_concat_length]
     refine ⟨ps ++ [pw], by rw [show (k.progs ++ [l]).length = k.progs.length + 1 by simp]; exact hps', fun j hj => ?_⟩
     rcases Nat.lt_or_ge j k.progs.length with hjl | hjg
     · obtain ⟨v, e, hv⟩ := hst j hjl
       refine ⟨v, by rw [List.getElem?_append_left (by omega)]; exact e, ?_⟩
       rw [List.getElem_append_left hjl];exact own_alt hv ha hS
     · have hj : j < k.progs.length + 1 := by simpa using hj
       have hj : j = k.progs.length := by omega
       subst hj
       refine ⟨pw, by rw [← hpsl]; simp, ?_⟩
       simp only [List.getElem_concat_length];exact OwnStp.mono hpw (by omega)
 · rcases Nat.lt_or_ge j pinit.length with hlt | hge
   · rw [List.getElem?_append_left hlt] at hq
     rw [List.getElem?_append_left (by omega)] at hp1;exact hap i j p q hij hp1 hq b hb1 hb2
   · rw [List.getElem?_append_right hge] at hq
     rcases Nat.eq_zero_or_pos (j - pinit.length) with e0 | e0
     · rw [e0] at hq
       simp at hq
       subst hq;rw [List.getElem?_append_left (by omega)] at hp1;have hb2 : some b = some g := hb2
       cases hb2
       rcases hat with e | e
       · exact hlast i p hp1 g hb1 e.symm
       · obtain ⟨p', e1, hv⟩ := hinit i (by omega)
         rw [hp1] at e1
         cases e1
         obtain ⟨ps1, ho1, _⟩ := hv;have := (World.ownsRow.lt ho1 g hb1.symm).2
         omega
     · rw [List.getElem?_eq_none (by simp; omega)] at hq
       cases hq
def addP (ks : List KindD) (l : List (Int × Int)) : List KindD :=
 match ks.getLast? with
 | none => ks
 | some k => ks.dropLast ++ [⟨k.name, k.progs ++ [l], k.keep⟩]
theorem addP_nil (l : List (Int × Int)) : addP [] l = [] := rfl
theorem addP_snoc (a : List KindD) (k : KindD) (l : List (Int × Int)) : addP (a ++ [k]) l = a ++ [⟨k.name, k.progs ++ [l], k.keep⟩] := by
 unfold addP
 rw [List.getLast?_concat, List.dropLast_concat]
theorem line5_any (r rr h : Nat) (c0 c1 c2 vk c4 c5 c6 c7 c8 wv : Value) (ks : List KindD) (ws : List (List UInt8)) (w0 w : World) (hrr : w.cell? ⟨rr, 0, none⟩ = some (.pointer (some ⟨r, 0, none⟩))) (hrrT : rr < h) (hx : RdBox r c0 c1 c2 vk c4 c5 c6 c7 c8 wv w) (hw : WordsIn w wv ws) (hl : ws.length ≤ 1000) (hj : (Lib.join ws [32]).length < 4294967281)
   (hk : KindsOwn h w vk ks) (hkl : ks.length ≤ 1000) (hkp : ∀ k ∈ ks, k.progs.length < 1000) (hh : h ≤ w.heap.size) (hE : LibIn w0) (hb : Below w0.heap.size w0 w) :
   Calls Tryz.prog 96 #[.pointer (some ⟨rr, 0, none⟩)] w fun e w' => (∃ v, e = .returned v) ∧ RdBox r c0 c1 c2 vk c4 c5 c6 c7 c8 wv w' ∧ KindsOwn h w' vk (addP ks (parseS (Lib.join ws [32])).1) ∧
     ∃ S, Alters S w w' ∧ (∀ b, S b → h ≤ b) ∧ NotT 32 S w ∧ NotT 3 S w ∧ NotT 70 S w := by
 rcases List.eq_nil_or_concat ks with rfl | ⟨init, k, e⟩
 · obtain ⟨a, cap, rfl, _⟩ := hk.in_
   refine line5_gen r rr c0 c1 c2 _ c4 c5 c6 c7 c8 wv ws w hrr hx hw hl hj _ (fun W hW => ?_);have hxW : RdBox r c0 c1 c2 (.slice a 0 cap) c4 c5 c6 c7 c8 wv W := (hW.block r (bx_lt hx)).trans hx;refine (addProg_none r c0 c1 c2 c4 c5 c6 c7 c8 wv a cap _ W hxW).mono ?_;rintro e w' ⟨hv, rfl⟩;have ha : Alters (fun _ => False) w w' := Alters.of_below hW
   exact ⟨hv, ⟨hxW, by rw [addP_nil]; exact hk.alt ha (fun _ h => h.elim) (fun _ h => h.elim) (fun _ h => h.elim), _, ha, fun _ h => h.elim, fun _ h => h.elim, fun _ h => h.elim, fun _ h => h.elim⟩, cell_keep hW hrr⟩
 · obtain rfl : ks = init ++ [k] := by simpa using e
   obtain ⟨g1, cap1, pinit, pv, ps, rfl, hpl, ho, hps, hst, hinit, hap, hlast⟩ := hk.last;refine line5_gen r rr c0 c1 c2 _ c4 c5 c6 c7 c8 wv ws w hrr hx hw hl hj _ (fun W hW => ?_);have hxW : RdBox r c0 c1 c2 (.slice (some ⟨g1, 0, none⟩) (init.length + 1) cap1) c4 c5 c6 c7 c8 wv W := (hW.block r (bx_lt hx)).trans hx;have haW : Alters (fun _ => False) w W := Alters.of_below hW;have hW0 := below_step hb hW;have hoW := World.ownsRow.upB ho hW;have hpW := World.ownsRow.upB hps hW
   refine (addProg_any r h init.length k.progs.length g1 cap1 c0 c1 c2 c4 c5 c6 c7 c8 wv _ pv _ _ ps (Lib.join ws [32]) W hxW hoW hpW (by simp at hkl; omega) (hkp k (by simp)) (Nat.le_trans hh hW.size) hj (hE.up hW0)).mono ?_
   rintro e w' ⟨hv, g, cap, pw, hx', ho', hps', hpw, ha, hat⟩
   have hres := prog_more (l := (parseS (Lib.join ws [32])).1) rfl rfl (Nat.le_trans hh hW.size) hpl hoW hpW (fun j hj => by
     obtain ⟨v, e, hv⟩ := hst j hj
     exact ⟨v, e, World.ownsRow.upB hv hW⟩) (fun i hi => by
     obtain ⟨p, e, hv⟩ := hinit i hi;exact ⟨p, e, hv.alt haW (fun _ h => h.elim) (fun _ h => h.elim)⟩) hap hlast ho' hps' hpw ha hat
   have hS : ∀ b, (b = g1 ∨ some b = pv.ownBlock) → h ≤ b := fun b hb => by
     rcases hb with rfl | hb
     · exact (World.ownsRow.lt ho b rfl).1
     · exact (World.ownsRow.lt hps b hb.symm).1
   have hN : ∀ {T : TypeId}, T ≠ 63 → T ≠ 68 → NotT T (fun b => b = g1 ∨ some b = pv.ownBlock) w := fun h1 h2 => NotT.or (fun b hb => notT_own ho h1 b (by rw [show b = g1 from hb]; rfl)) (notT_own hps h2)
   refine ⟨hv, ⟨hx', by rw [addP_snoc]; exact hres, _, (haW.mono (fun _ _ h => h.elim)).trans ha, hS, hN (by decide) (by decide), hN (by decide) (by decide), hN (by decide) (by decide)⟩, ?_⟩
   have hc := cell_keep hW hrr
   exact (World.cell?_of_block (a := ⟨rr, 0, none⟩) (ha.block rr (World.block_lt_of_cell? _ _ hc) (fun hb => by have := hS rr hb; omega))).trans hc
end Go.Proofs.YtbmcngoeinginaaGreatDoor
namespace Go.Proofs.YtbmcngoeinginaaGreatDoor
open Go Go.RowKit Go.Lib
def keysK : List (List UInt8) := [[98, 111, 97, 114, 100], [100, 105, 114], [116, 117, 114, 110], [107, 105, 110, 100], [112, 114, 111, 103], [114, 105, 103, 104, 116, 115], [109, 117, 115, 116], [108, 97, 99, 107, 115], [104, 111, 108, 100, 115], [102, 101, 119], [98, 108, 111, 99, 107, 101, 100], [101, 110, 100, 108, 101, 115, 115]]
def keyNo (s : List UInt8) : Option Nat := keysK.findIdx? (fun k => k == s)
def stepN (g : GameD) (i : Nat) (ws : List (List UInt8)) : GameD :=
 match i with
 | 0 => { g with b := { g.b with cells := numS (headW ws) } }
 | 1 => { g with b := { g.b with next := g.b.next ++ [ws.map numS] } }
 | 2 => { g with b := { g.b with turn := ws.map numS } }
 | 3 => { g with kinds := g.kinds ++ [⟨headW ws, [], headW ws.tail == [107, 101, 101, 112]⟩] }
 | 4 => { g with kinds := addP g.kinds (parseS (Lib.join ws [32])).1 }
 | 5 => { g with rights := numS (headW ws) }
 | 6 => { g with must := true }
 | 7 => { g with clauses := g.clauses ++ [⟨1, findD g.kinds (headW ws), 0, resN (headW ws.tail)⟩] }
 | 8 => { g with clauses := g.clauses ++ [⟨2, findD g.kinds (headW ws), numS (headW ws.tail), resN (headW ws.tail.tail)⟩] }
 | 9 => { g with clauses := g.clauses ++ [⟨3, 0, numS (headW ws), resN (headW ws.tail)⟩] }
 | 10 => { g with blocked := resN (headW ws) }
 | 11 => { g with endless := resN (headW ws) }
 | _ => g
structure RdAt (w0 w : World) (h r rr : Nat) (g : GameD) (wv : Value) (ws : List (List UInt8)) : Prop where
 ptr : w.cell? ⟨rr, 0, none⟩ = some (.pointer (some ⟨r, 0, none⟩))
 ne : rr ≠ r
 rrh : rr < h
 rh : r < h
 hh : h ≤ w.heap.size
 gm : RdG h r w g wv
 wd : WordsIn w wv ws
 len : ws.length ≤ 1000
 each : ∀ x ∈ ws, x.length ≤ 1000000
 join : (Lib.join ws [32]).length < 4294967281
 few : Few 999 g
 lib : LibIn w0
 res : ResIn w0
 low : w0.heap.size ≤ r
 below : Below w0.heap.size w0 w
def Stepped (h r : Nat) (w w' : World) (g : GameD) : Prop := ∃ wv, RdG h r w' g wv ∧ Alters (fun b => b = r ∨ h ≤ b) w w'
theorem rest_parts {h r : Nat} {c0 c1 c2 c3 c4 c5 c6 c7 c8 wv d0 d1 d2 d3 d4 d5 d6 d7 d8 vn vt vk vc : Value} {ws : List (List UInt8)} {w w' : World} {nx : List (List Int)} {tn : List Int} {ks : List KindD} {cs : List ClauseD}
   (hx : RdBox r c0 c1 c2 c3 c4 c5 c6 c7 c8 wv w) (hR : Rest r d0 d1 d2 d3 d4 d5 d6 d7 d8 ws w w') (hn : NextOwn h w vn nx) (ht : OwnInts h w vt tn) (hk : KindsOwn h w vk ks) (hc : w.ownsRow h 70 4 vc cs.length (flatC cs)) :
   ∃ wv', RdBox r d0 d1 d2 d3 d4 d5 d6 d7 d8 wv' w' ∧ NextOwn h w' vn nx ∧ OwnInts h w' vt tn ∧ KindsOwn h w' vk ks ∧ w'.ownsRow h 70 4 vc cs.length (flatC cs) ∧ Alters (fun b => b = r ∨ h ≤ b) w w' := by
 obtain ⟨wv', hx', _, ha⟩ := hR
 exact ⟨wv', hx', hn.alt ha (notT_box hx (by decide)) (notT_box hx (by decide)), own_alt ht ha (notT_box hx (by decide)), hk.alt ha (notT_box hx (by decide)) (notT_box hx (by decide)) (notT_box hx (by decide)), own_alt hc ha (notT_box hx (by decide)), ha.mono (fun _ _ h => .inl h)⟩
theorem added_alt {r h k g cap : Nat} {e : TypeId} {size : Nat} {v c0 c1 c2 c3 c4 c5 c6 c7 c8 wv : Value} {xs news : List Value} {w w' : World} (ho : w.ownsRow h e size v k xs) (ha : Added r h e size k v xs news c0 c1 c2 c3 c4 c5 c6 c7 c8 wv g cap w w') : Alters (fun b => b = r ∨ h ≤ b) w w' :=
 ha.alt.mono (fun _ _ hb => hb.elim .inl (fun hb => .inr (World.ownsRow.lt ho _ hb.symm).1))
theorem added_not {r h k g cap : Nat} {e : TypeId} {size : Nat} {v c0 c1 c2 c3 c4 c5 c6 c7 c8 wv d0 d1 d2 d3 d4 d5 d6 d7 d8 dv : Value} {xs news : List Value} {w w' : World} (hx : RdBox r d0 d1 d2 d3 d4 d5 d6 d7 d8 dv w) (ho : w.ownsRow h e size v k xs) (_ : Added r h e size k v xs news c0 c1 c2 c3 c4 c5 c6 c7 c8 wv g cap w w') {T : TypeId} (h1 : T ≠ 112) (h2 : T ≠ e) : NotT T (fun b => b = r ∨ some b = v.ownBlock) w := (notT_box hx h1).or (notT_own ho h2)
theorem step0 {w0 w : World} {h r rr : Nat} {g : GameD} {wv : Value} {ws : List (List UInt8)} (a : RdAt w0 w h r rr g wv ws) :
   Calls Tryz.prog 90 #[.pointer (some ⟨rr, 0, none⟩)] w fun e w' => (∃ v, e = .returned v) ∧ Stepped h r w w' (stepN g 0 ws) := by
 obtain ⟨vn, vt, vk, vc, hx, hn, ht, hk, hc⟩ := a.gm
 refine (line1_any r rr _ _ _ _ _ _ _ _ _ wv ws w0 w a.ptr a.ne hx a.wd a.len a.each a.lib a.low a.below).mono ?_
 rintro e w' ⟨hv, hR⟩
 obtain ⟨wv', hx', hn', ht', hk', hc', ha⟩ := rest_parts hx hR hn ht hk hc
 exact ⟨hv, wv', ⟨_, _, _, _, hx', hn', ht', hk', hc'⟩, ha⟩
theorem step5 {w0 w : World} {h r rr : Nat} {g : GameD} {wv : Value} {ws : List (List UInt8)} (a : RdAt w0 w h r rr g wv ws) :
   Calls Tryz.prog 98 #[.pointer (some ⟨rr, 0, none⟩)] w fun e w' => (∃ v, e = .returned v) ∧ Stepped h r w w' (stepN g 5 ws) := by
 obtain ⟨vn, vt, vk, vc, hx, hn, ht, hk, hc⟩ := a.gm
 refine (line6_any r rr _ _ _ _ _ _ _ _ _ wv ws w0 w a.ptr a.ne hx a.wd a.len a.each a.lib a.low a.below).mono ?_
 rintro e w' ⟨hv, hR⟩
 obtain ⟨wv', hx', hn', ht', hk', hc', ha⟩ := rest_parts hx hR hn ht hk hc
 exact ⟨hv, wv', ⟨_, _, _, _, hx', hn', ht', hk', hc'⟩, ha⟩
theorem step10 {w0 w : World} {h r rr : Nat} {g : GameD} {wv : Value} {ws : List (List UInt8)} (a : RdAt w0 w h r rr g wv ws) :
   Calls Tryz.prog 106 #[.pointer (some ⟨rr, 0, none⟩)] w fun e w' => (∃ v, e = .returned v) ∧ Stepped h r w w' (stepN g 10 ws) := by
 obtain ⟨vn, vt, vk, vc, hx, hn, ht, hk, hc⟩ := a.gm
 refine (line11_any r rr _ _ _ _ _ _ _ _ _ wv ws w0 w a.ptr a.ne hx a.wd a.len a.res a.low a.below).mono ?_
 rintro e w' ⟨hv, hR⟩
 obtain ⟨wv', hx', hn', ht', hk', hc', ha⟩ := rest_parts hx hR hn ht hk hc
 exact ⟨hv, wv', ⟨_, _, _, _, hx', hn', ht', hk', hc'⟩, ha⟩
theorem step11 {w0 w : World} {h r rr : Nat} {g : GameD} {wv : Value} {ws : List (List UInt8)} (a : RdAt w0 w h r rr g wv ws) :
   Calls Tryz.prog 107 #[.pointer (some ⟨rr, 0, none⟩)] w fun e w' => (∃ v, e = .returned v) ∧ Stepped h r w w' (stepN g 11 ws) := by
 obtain ⟨vn, vt, vk, vc, hx, hn, ht, hk, hc⟩ := a.gm
 refine (line12_any r rr _ _ _ _ _ _ _ _ _ wv ws w0 w a.ptr a.ne hx a.wd a.len a.res a.low a.below).mono ?_
 rintro e w' ⟨hv, hR⟩
 obtain ⟨wv', hx', hn', ht', hk', hc', ha⟩ := rest_parts hx hR hn ht hk hc
 exact ⟨hv, wv', ⟨_, _, _, _, hx', hn', ht', hk', hc'⟩, ha⟩
theorem step6 {w0 w : World} {h r rr : Nat} {g : GameD} {wv : Value} {ws : List (List UInt8)} (a : RdAt w0 w h r rr g wv ws) :
   Calls Tryz.prog 99 #[.pointer (some ⟨rr, 0, none⟩)] w fun e w' => (∃ v, e = .returned v) ∧ Stepped h r w w' (stepN g 6 ws) := by
 obtain ⟨vn, vt, vk, vc, hx, hn, ht, hk, hc⟩ := a.gm
 refine (line7_any r rr _ _ _ _ _ _ _ _ _ wv ws w a.ptr hx a.wd).mono ?_
 rintro e w' ⟨hv, hR⟩
 obtain ⟨wv', hx', hn', ht', hk', hc', ha⟩ := rest_parts hx hR hn ht hk hc
 exact ⟨hv, wv', ⟨_, _, _, _, hx', hn', ht', hk', hc'⟩, ha⟩
theorem step2 {w0 w : World} {h r rr : Nat} {g : GameD} {wv : Value} {ws : List (List UInt8)} (a : RdAt w0 w h r rr g wv ws) :
   Calls Tryz.prog 94 #[.pointer (some ⟨rr, 0, none⟩)] w fun e w' => (∃ v, e = .returned v) ∧ Stepped h r w w' (stepN g 2 ws) := by
 obtain ⟨vn, vt, vk, vc, hx, hn, ht, hk, hc⟩ := a.gm
 refine (line3_any r rr _ _ _ _ _ _ _ _ _ wv ws w0 w a.ptr a.ne hx a.wd a.len a.each a.lib a.low a.below).mono ?_
 rintro e w' ⟨hv, tv, hov, hR⟩
 obtain ⟨wv', hx', hn', ht', hk', hc', ha⟩ := rest_parts hx hR hn ht hk hc
 exact ⟨hv, wv', ⟨_, _, _, _, hx', hn', OwnInts.mono hov a.hh, hk', hc'⟩, ha⟩
theorem step1 {w0 w : World} {h r rr : Nat} {g : GameD} {wv : Value} {ws : List (List UInt8)} (a : RdAt w0 w h r rr g wv ws) :
   Calls Tryz.prog 92 #[.pointer (some ⟨rr, 0, none⟩)] w fun e w' => (∃ v, e = .returned v) ∧ Stepped h r w w' (stepN g 1 ws) := by
 obtain ⟨vn, vt, vk, vc, hx, hn, ht, hk, hc⟩ := a.gm
 obtain ⟨rows, ho, hr⟩ := hn
 refine (line2_any r rr h g.b.next.length _ _ _ _ _ _ _ _ _ wv rows ws w0 w a.ptr a.ne hx a.wd ho a.rh (by have := a.few.next; omega) a.hh (fun e => by have := (World.ownsRow.lt ho _ e.symm).1; have := a.rrh; omega) a.len a.each a.lib a.low a.below).mono ?_
 rintro e w' ⟨hv, g1, cap, rv, wv2, had, _, hov⟩
 have hN := fun {T : TypeId} (h1 : T ≠ 112) (h2 : T ≠ 32) => added_not hx ho had h1 h2
 have hrl : rows.length = g.b.next.length := by have := ho.1; omega
 refine ⟨hv, wv2, ⟨_, _, _, _, had.box, ⟨rows ++ [rv], ?_, fun j hj => ?_⟩, own_alt ht had.alt (hN (by decide) (by decide)), hk.alt had.alt (hN (by decide) (by decide)) (hN (by decide) (by decide)) (hN (by decide) (by decide)), own_alt hc had.alt (hN (by decide) (by decide))⟩, added_alt ho had⟩
 · rw [show (stepN g 1 ws).b.next.length = g.b.next.length + 1 by simp [stepN]]
   exact had.own
 · rcases Nat.lt_or_ge j g.b.next.length with hlt | hge
   · obtain ⟨v, e, hv⟩ := hr j hlt
     refine ⟨v, by rw [List.getElem?_append_left (by omega)]; exact e, ?_⟩
     simp only [stepN];rw [List.getElem_append_left hlt];exact own_alt hv had.alt (hN (by decide) (by decide))
   · have hj : j < g.b.next.length + 1 := by simpa [stepN] using hj
     have hj : j = g.b.next.length := by omega
     subst hj
     refine ⟨rv, by rw [← hrl]; simp, ?_⟩
     simp only [stepN, List.getElem_concat_length];exact OwnInts.mono hov a.hh
theorem step3 {w0 w : World} {h r rr : Nat} {g : GameD} {wv : Value} {ws : List (List UInt8)} (a : RdAt w0 w h r rr g wv ws) :
   Calls Tryz.prog 95 #[.pointer (some ⟨rr, 0, none⟩)] w fun e w' => (∃ v, e = .returned v) ∧ Stepped h r w w' (stepN g 3 ws) := by
 obtain ⟨vn, vt, vk, vc, hx, hn, ht, hk, hc⟩ := a.gm
 obtain ⟨pvs, hl, ho, _⟩ := id hk
 refine (line4_any r rr h g.kinds.length _ _ _ _ _ _ _ _ _ wv _ ws w a.ptr a.ne hx a.wd ho a.rh (by have := a.few.kinds; omega) a.hh (fun e => by have := (World.ownsRow.lt ho _ e.symm).1; have := a.rrh; omega) a.len).mono ?_
 rintro e w' ⟨hv, g1, cap, wv2, had⟩
 have hN := fun {T : TypeId} (h1 : T ≠ 112) (h2 : T ≠ 63) => added_not hx ho had h1 h2
 refine ⟨hv, wv2, ⟨_, _, _, _, ?_, hn.alt had.alt (hN (by decide) (by decide)) (hN (by decide) (by decide)), own_alt ht had.alt (hN (by decide) (by decide)), hk.push hx ho had, own_alt hc had.alt (hN (by decide) (by decide))⟩, added_alt ho had⟩
 exact had.box
theorem step4 {w0 w : World} {h r rr : Nat} {g : GameD} {wv : Value} {ws : List (List UInt8)} (a : RdAt w0 w h r rr g wv ws) :
   Calls Tryz.prog 96 #[.pointer (some ⟨rr, 0, none⟩)] w fun e w' => (∃ v, e = .returned v) ∧ Stepped h r w w' (stepN g 4 ws) := by
 obtain ⟨vn, vt, vk, vc, hx, hn, ht, hk, hc⟩ := a.gm
 refine (line5_any r rr h _ _ _ _ _ _ _ _ _ wv g.kinds ws w0 w a.ptr a.rrh hx a.wd a.len a.join hk (by have := a.few.kinds; omega) (fun k hk => by have := a.few.progs k hk; omega) a.hh a.lib a.below).mono ?_
 rintro e w' ⟨hv, hx', hk', S, ha, hS, h1, h2, h3⟩
 exact ⟨hv, wv, ⟨_, _, _, _, hx', hn.alt ha h1 h2, own_alt ht ha h2, hk', own_alt hc ha h3⟩, ha.mono (fun b _ hb => .inr (hS b hb))⟩
theorem step7 {w0 w : World} {h r rr : Nat} {g : GameD} {wv : Value} {ws : List (List UInt8)} (a : RdAt w0 w h r rr g wv ws) :
   Calls Tryz.prog 100 #[.pointer (some ⟨rr, 0, none⟩)] w fun e w' => (∃ v, e = .returned v) ∧ Stepped h r w w' (stepN g 7 ws) := by
 obtain ⟨vn, vt, vk, vc, hx, hn, ht, hk, hc⟩ := a.gm
 obtain ⟨ak, ck, rfl, hki⟩ := hk.in_
 have hKI : ∀ W, Alters (fun b => b = r) w W → KindsIn W.heap.size W ak g.kinds := fun W ha => by
   obtain ⟨a2, c2, e, hi⟩ := (hk.alt ha (notT_box hx (by decide)) (notT_box hx (by decide)) (notT_box hx (by decide))).in_
   cases e
   exact hi
 refine (line8_any r rr h g.clauses.length _ _ _ _ _ _ _ _ wv g.kinds ak ck _ ws w0 w a.ptr a.ne hx a.wd hc a.rh (by have := a.few.clauses; omega) a.hh (fun e => by have := (World.ownsRow.lt hc _ e.symm).1; have := a.rrh; omega) a.len a.res (by have := a.few.kinds; unfold maxLen; omega) hKI a.low a.below).mono ?_
 rintro e w' ⟨hv, g1, cap, wv2, had, _⟩
 have hN := fun {T : TypeId} (h1 : T ≠ 112) (h2 : T ≠ 70) => added_not hx hc had h1 h2
 refine ⟨hv, wv2, ⟨vn, vt, _, .slice (some ⟨g1, 0, none⟩) (g.clauses.length + 1) cap, ?_, hn.alt had.alt (hN (by decide) (by decide)) (hN (by decide) (by decide)), own_alt ht had.alt (hN (by decide) (by decide)), hk.alt had.alt (hN (by decide) (by decide)) (hN (by decide) (by decide)) (hN (by decide) (by decide)), ?_⟩, added_alt hc had⟩
 · exact had.box
 · simp only [stepN]
   rw [flatC_snoc, List.length_append];exact had.own
theorem step8 {w0 w : World} {h r rr : Nat} {g : GameD} {wv : Value} {ws : List (List UInt8)} (a : RdAt w0 w h r rr g wv ws) :
   Calls Tryz.prog 104 #[.pointer (some ⟨rr, 0, none⟩)] w fun e w' => (∃ v, e = .returned v) ∧ Stepped h r w w' (stepN g 8 ws) := by
 obtain ⟨vn, vt, vk, vc, hx, hn, ht, hk, hc⟩ := a.gm
 obtain ⟨ak, ck, rfl, hki⟩ := hk.in_
 have hKI : ∀ W, Alters (fun b => b = r) w W → KindsIn W.heap.size W ak g.kinds := fun W ha => by
   obtain ⟨a2, c2, e, hi⟩ := (hk.alt ha (notT_box hx (by decide)) (notT_box hx (by decide)) (notT_box hx (by decide))).in_
   cases e
   exact hi
 refine (line9_any r rr h g.clauses.length _ _ _ _ _ _ _ _ wv g.kinds ak ck _ ws w0 w a.ptr a.ne hx a.wd hc a.rh (by have := a.few.clauses; omega) a.hh (fun e => by have := (World.ownsRow.lt hc _ e.symm).1; have := a.rrh; omega) a.len a.each a.lib a.res (by have := a.few.kinds; unfold maxLen; omega) hKI a.low a.below).mono ?_
 rintro e w' ⟨hv, g1, cap, wv2, had, _⟩
 have hN := fun {T : TypeId} (h1 : T ≠ 112) (h2 : T ≠ 70) => added_not hx hc had h1 h2
 refine ⟨hv, wv2, ⟨vn, vt, _, .slice (some ⟨g1, 0, none⟩) (g.clauses.length + 1) cap, ?_, hn.alt had.alt (hN (by decide) (by decide)) (hN (by decide) (by decide)), own_alt ht had.alt (hN (by decide) (by decide)), hk.alt had.alt (hN (by decide) (by decide)) (hN (by decide) (by decide)) (hN (by decide) (by decide)), ?_⟩, added_alt hc had⟩
 · exact had.box
 · simp only [stepN]
   rw [flatC_snoc, List.length_append];exact had.own
theorem step9 {w0 w : World} {h r rr : Nat} {g : GameD} {wv : Value} {ws : List (List UInt8)} (a : RdAt w0 w h r rr g wv ws) :
   Calls Tryz.prog 105 #[.pointer (some ⟨rr, 0, none⟩)] w fun e w' => (∃ v, e = .returned v) ∧ Stepped h r w w' (stepN g 9 ws) := by
 obtain ⟨vn, vt, vk, vc, hx, hn, ht, hk, hc⟩ := a.gm
 refine (line10_any r rr h g.clauses.length _ _ _ _ _ _ _ _ _ wv _ ws w0 w a.ptr a.ne hx a.wd hc a.rh (by have := a.few.clauses; omega) a.hh (fun e => by have := (World.ownsRow.lt hc _ e.symm).1; have := a.rrh; omega) a.len a.each a.lib a.res a.low a.below).mono ?_
 rintro e w' ⟨hv, g1, cap, wv2, had, _⟩
 have hN := fun {T : TypeId} (h1 : T ≠ 112) (h2 : T ≠ 70) => added_not hx hc had h1 h2
 refine ⟨hv, wv2, ⟨vn, vt, _, .slice (some ⟨g1, 0, none⟩) (g.clauses.length + 1) cap, ?_, hn.alt had.alt (hN (by decide) (by decide)) (hN (by decide) (by decide)), own_alt ht had.alt (hN (by decide) (by decide)), hk.alt had.alt (hN (by decide) (by decide)) (hN (by decide) (by decide)) (hN (by decide) (by decide)), ?_⟩, added_alt hc had⟩
 · exact had.box
 · simp only [stepN]
   rw [flatC_snoc, List.length_append];exact had.own
end Go.Proofs.YtbmcngoeinginaaGreatDoor
namespace Go.Proofs.YtbmcngoeinginaaGreatDoor
open Go Go.RowKit Go.Sort Go.Lib
theorem pieces_eq (s : List UInt8) (c : UInt8) (n : Nat) : (splitB ⟨#[c]⟩ 0 (min n ((⟨s.toArray⟩ : ByteArray).size + 1) - 1) ⟨s.toArray⟩).map (·.data.toList) = splitN s [c] n := by
 rw [splitB_data]
 rfl
theorem pieces_n (s : List UInt8) (c : UInt8) (n : Nat) (hn : 1 ≤ n) : (splitN s [c] n).length ≤ n ∧ (splitB ⟨#[c]⟩ 0 (min n ((⟨s.toArray⟩ : ByteArray).size + 1) - 1) ⟨s.toArray⟩).length = (splitN s [c] n).length ∧ (splitN s [c] n).length ≤ min n ((⟨s.toArray⟩ : ByteArray).size + 1) := by
 have h := pieces_eq s c n
 have h1 := congrArg List.length h
 rw [List.length_map] at h1
 have h2 := splitB_length_le ⟨#[c]⟩ 0 (min n ((⟨s.toArray⟩ : ByteArray).size + 1) - 1) ⟨s.toArray⟩
 omega
theorem piece_le (s : List UInt8) (c : UInt8) (n : Nat) {x : List UInt8} (hx : x ∈ splitN s [c] n) : x.length ≤ s.length := splitK_le _ _ _ _ hx
theorem pieces_cell (s : List UInt8) (c : UInt8) (n j : Nat) (hj : j < (splitN s [c] n).length) :
   (cellsOf (splitB ⟨#[c]⟩ 0 (min n ((⟨s.toArray⟩ : ByteArray).size + 1) - 1) ⟨s.toArray⟩) (min n ((⟨s.toArray⟩ : ByteArray).size + 1)))[j]? = some (.string ⟨((splitN s [c] n)[j]'hj).toArray⟩) := by
 have h := pieces_eq s c n
 unfold cellsOf
 have hj2 : j < (splitB ⟨#[c]⟩ 0 (min n ((⟨s.toArray⟩ : ByteArray).size + 1) - 1) ⟨s.toArray⟩).length := by rw [← h, List.length_map] at hj; exact hj
 have e : (splitN s [c] n)[j]'hj = ((splitB ⟨#[c]⟩ 0 (min n ((⟨s.toArray⟩ : ByteArray).size + 1) - 1) ⟨s.toArray⟩)[j]'hj2).data.toList := by
   have : (splitN s [c] n)[j]? = some (((splitB ⟨#[c]⟩ 0 (min n ((⟨s.toArray⟩ : ByteArray).size + 1) - 1) ⟨s.toArray⟩)[j]'hj2).data.toList) := by
     rw [← h, List.getElem?_map, List.getElem?_eq_getElem hj2]; rfl
   rw [List.getElem?_eq_getElem hj] at this;exact Option.some.inj this
 rw [List.getElem?_toArray, List.getElem?_append_left (by simpa using hj2), List.getElem?_map, List.getElem?_eq_getElem hj2, e]
 simp
theorem split_any (s : List UInt8) (c : UInt8) (n : Nat) (hn : 1 ≤ n) (hn9 : n ≤ 1000) (hs : s.length < 4294967281) (w : World) (hL : LibIn w) :
   Calls Tryz.prog 64 #[.string ⟨s.toArray⟩, .string ⟨#[c]⟩, .int .i64 n] w fun e w' => ∃ cap cs, e = .returned (.slice (some ⟨w.heap.size, 0, none⟩) (splitN s [c] n).length cap) ∧ (splitN s [c] n).length ≤ cap ∧ w' = w.alloc (.cells cs 9) ∧ ∀ j (hj : j < (splitN s [c] n).length), cs[j]? = some (.string ⟨((splitN s [c] n)[j]'hj).toArray⟩) := by
 obtain ⟨m, hm⟩ := hL.max
 have hsp := Tryz.strings_SplitN ⟨s.toArray⟩ ⟨#[c]⟩ n m w (by show s.toArray.size < _; simpa using hs) hm (by show 1 ≤ #[c].size; simp) hn (by omega)
 obtain ⟨hn9, hnl, hnc⟩ := pieces_n s c n hn
 rw [hnl] at hsp
 refine hsp.mono ?_
 rintro e w' ⟨rfl, rfl⟩
 exact ⟨_, _, rfl, hnc, rfl, fun j hj => pieces_cell s c n j hj⟩
theorem pieces_in {w w' : World} {ws : List (List UInt8)} {cap : Nat} {cs : Array Value} (hc : ws.length ≤ cap) (e : w' = w.alloc (.cells cs 9)) (h : ∀ j (hj : j < ws.length), cs[j]? = some (.string ⟨(ws[j]'hj).toArray⟩)) : WordsIn w' (.slice (some ⟨w.heap.size, 0, none⟩) ws.length cap) ws := by
 subst e
 exact ⟨_, _, rfl, hc, .inr ⟨w.heap.size, 0, cs, rfl, World.alloc_heap_new _ _, fun j hj => by rw [Nat.zero_add]; exact h j hj⟩⟩
end Go.Proofs.YtbmcngoeinginaaGreatDoor
namespace Go.Proofs.YtbmcngoeinginaaGreatDoor
open Go Go.RowKit Go.Sort Go.Lib
def lineG (g : GameD) (line : List UInt8) : GameD :=
 match keyNo (headW (splitN line [32] 66)) with
 | some i => stepN g i (splitN line [32] 66).tail
 | none => g
def zeroG : GameD := ⟨⟨0, [], []⟩, [], 0, false, [], 0, 0⟩
def readG (s : List UInt8) : GameD := (splitN s [10] 75).foldl lineG zeroG
theorem addP_few {n : Nat} {ks : List KindD} (l : List (Int × Int)) (h : ∀ k ∈ ks, k.progs.length ≤ n) : (addP ks l).length = ks.length ∧ ∀ k ∈ addP ks l, k.progs.length ≤ n + 1 := by
 rcases List.eq_nil_or_concat ks with rfl | ⟨a, k, e⟩
 · exact ⟨rfl, fun k hk => by cases hk⟩
 · obtain rfl : ks = a ++ [k] := by simpa using e
   rw [addP_snoc];refine ⟨by simp, fun x hx => ?_⟩
   rcases List.mem_append.1 hx with hx | hx
   · have := h x (List.mem_append_left _ hx); omega
   · rw [List.mem_singleton.1 hx]
     have := h k (by simp)
     simp; omega
theorem stepN_few {n : Nat} {g : GameD} (h : Few n g) (i : Nat) (ws : List (List UInt8)) : Few (n + 1) (stepN g i ws) := by
 have h1 := h.next; have h2 := h.kinds; have h4 := h.clauses
 have h3 : ∀ k ∈ g.kinds, k.progs.length ≤ n + 1 := fun k hk => Nat.le_succ_of_le (h.progs k hk)
 unfold stepN
 split
 · exact h.mono (Nat.le_succ n) |> fun q => ⟨q.next, q.kinds, q.progs, q.clauses⟩
 · exact ⟨(by first | exact Nat.le_succ_of_le h1 | exact Nat.le_succ_of_le h2 | exact Nat.le_succ_of_le h4 | (simp; omega)), (by first | exact Nat.le_succ_of_le h1 | exact Nat.le_succ_of_le h2 | exact Nat.le_succ_of_le h4 | (simp; omega)), h3, (by first | exact Nat.le_succ_of_le h1 | exact Nat.le_succ_of_le h2 | exact Nat.le_succ_of_le h4 | (simp; omega))⟩
 · exact ⟨(by first | exact Nat.le_succ_of_le h1 | exact Nat.le_succ_of_le h2 | exact Nat.le_succ_of_le h4 | (simp; omega)), (by first | exact Nat.le_succ_of_le h1 | exact Nat.le_succ_of_le h2 | exact Nat.le_succ_of_le h4 | (simp; omega)), h3, (by first | exact Nat.le_succ_of_le h1 | exact Nat.le_succ_of_le h2 | exact Nat.le_succ_of_le h4 | (simp; omega))⟩
 · refine ⟨(by first | exact Nat.le_succ_of_le h1 | exact Nat.le_succ_of_le h2 | exact Nat.le_succ_of_le h4 | (simp; omega)), (by first | exact Nat.le_succ_of_le h1 | exact Nat.le_succ_of_le h2 | exact Nat.le_succ_of_le h4 | (simp; omega)), fun k hk => ?_, (by first | exact Nat.le_succ_of_le h1 | exact Nat.le_succ_of_le h2 | exact Nat.le_succ_of_le h4 | (simp; omega))⟩
   rcases List.mem_append.1 hk with hk | hk
   · exact h3 k hk
   · rw [List.mem_singleton.1 hk]; simp
 · obtain ⟨p1, p2⟩ := addP_few (parseS (Lib.join ws [32])).1 h.progs
   exact ⟨(by first | exact Nat.le_succ_of_le h1 | exact Nat.le_succ_of_le h2 | exact Nat.le_succ_of_le h4 | (simp; omega)), by rw [p1]; omega, p2, (by first | exact Nat.le_succ_of_le h1 | exact Nat.le_succ_of_le h2 | exact Nat.le_succ_of_le h4 | (simp; omega))⟩
 all_goals exact ⟨(by first | exact Nat.le_succ_of_le h1 | exact Nat.le_succ_of_le h2 | exact Nat.le_succ_of_le h4 | (simp; omega)), (by first | exact Nat.le_succ_of_le h1 | exact Nat.le_succ_of_le h2 | exact Nat.le_succ_of_le h4 | (simp; omega)), h3, (by first | exact Nat.le_succ_of_le h1 | exact Nat.le_succ_of_le h2 | exact Nat.le_succ_of_le h4 | (simp; omega))⟩
theorem lineG_few {n : Nat} {g : GameD} (h : Few n g) (line : List UInt8) : Few (n + 1) (lineG g line) := by
 unfold lineG
 split
 · exact stepN_few h _ _
 · exact h.mono (Nat.le_succ n)
theorem fold_few (l : List (List UInt8)) : ∀ (n : Nat) (g : GameD), Few n g → Few (n + l.length) (l.foldl lineG g) := by
 induction l with
 | nil => exact fun n g h => h
 | cons x t ih =>
   intro n g h;have := ih (n + 1) (lineG g x) (lineG_few h x);rw [List.length_cons, show n + (t.length + 1) = n + 1 + t.length by omega];exact this
theorem take_few (l : List (List UInt8)) (q : Nat) (hl : l.length ≤ 75) : Few 75 ((l.take q).foldl lineG zeroG) :=
 (fold_few (l.take q) 0 zeroG ⟨Nat.le_refl _, Nat.le_refl _, fun _ hk => (by cases hk), Nat.le_refl _⟩).mono (by rw [List.length_take]; omega)
theorem join_len : ∀ (ws : List (List UInt8)) (M : Nat), (∀ x ∈ ws, x.length ≤ M) → (Lib.join ws [32]).length ≤ ws.length * (M + 1)
 | [], _, _ => by simp [Lib.join, List.intercalate]
 | [x], M, h => by
   have := h x (by simp)
   simp [Lib.join, List.intercalate, List.intersperse]
   omega
 | x :: y :: t, M, h => by
   have h1 := h x (by simp);have ih := join_len (y :: t) M (fun z hz => h z (by simp [hz]))
   have e : Lib.join (x :: y :: t) [32] = x ++ [32] ++ Lib.join (y :: t) [32] := by simp [Lib.join, List.intercalate, List.intersperse]
   rw [e];simp only [List.length_append, List.length_cons, List.length_nil] at ih ⊢
   have e2 : (t.length + 1 + 1) * (M + 1) = (t.length + 1) * (M + 1) + (M + 1) := by rw [Nat.add_mul (t.length + 1) 1, Nat.one_mul]
   omega
theorem fn_any {w0 w : World} {h r rr : Nat} {g : GameD} {wv : Value} {ws : List (List UInt8)} (a : RdAt w0 w h r rr g wv ws) (s : List UInt8) :
   (lookF s = none ∧ keyNo s = none) ∨ ∃ n i, lookF s = some n ∧ keyNo s = some i ∧ (∀ args w, (callFunc n args).run Tryz.prog w = .ok (.enter n args) w) ∧ Calls Tryz.prog n #[.pointer (some ⟨rr, 0, none⟩)] w fun e w' => (∃ v, e = .returned v) ∧ Stepped h r w w' (stepN g i ws) := by
 by_cases h0 : ([98, 111, 97, 114, 100] : List UInt8) = s
 · subst h0; exact .inr ⟨_, 0, rfl, rfl, enters_of Tryz.func90 (by kernel_rfl) rfl, step0 a⟩
 by_cases h1 : ([100, 105, 114] : List UInt8) = s
 · subst h1; exact .inr ⟨_, 1, rfl, rfl, enters_of Tryz.func92 (by kernel_rfl) rfl, step1 a⟩
 by_cases h2 : ([116, 117, 114, 110] : List UInt8) = s
 · subst h2; exact .inr ⟨_, 2, rfl, rfl, enters_of Tryz.func94 (by kernel_rfl) rfl, step2 a⟩
 by_cases h3 : ([107, 105, 110, 100] : List UInt8) = s
 · subst h3; exact .inr ⟨_, 3, rfl, rfl, enters_of Tryz.func95 (by kernel_rfl) rfl, step3 a⟩
 by_cases h4 : ([112, 114, 111, 103] : List UInt8) = s
 · subst h4; exact .inr ⟨_, 4, rfl, rfl, enters_of Tryz.func96 (by kernel_rfl) rfl, step4 a⟩
 by_cases h5 : ([114, 105, 103, 104, 116, 115] : List UInt8) = s
 · subst h5; exact .inr ⟨_, 5, rfl, rfl, enters_of Tryz.func98 (by kernel_rfl) rfl, step5 a⟩
 by_cases h6 : ([109, 117, 115, 116] : List UInt8) = s
 · subst h6; exact .inr ⟨_, 6, rfl, rfl, enters_of Tryz.func99 (by kernel_rfl) rfl, step6 a⟩
 by_cases h7 : ([108, 97, 99, 107, 115] : List UInt8) = s
 · subst h7; exact .inr ⟨_, 7, rfl, rfl, enters_of Tryz.func100 (by kernel_rfl) rfl, step7 a⟩
 by_cases h8 : ([104, 111, 108, 100, 115] : List UInt8) = s
 · subst h8; exact .inr ⟨_, 8, rfl, rfl, enters_of Tryz.func104 (by kernel_rfl) rfl, step8 a⟩
 by_cases h9 : ([102, 101, 119] : List UInt8) = s
 · subst h9; exact .inr ⟨_, 9, rfl, rfl, enters_of Tryz.func105 (by kernel_rfl) rfl, step9 a⟩
 by_cases h10 : ([98, 108, 111, 99, 107, 101, 100] : List UInt8) = s
 · subst h10; exact .inr ⟨_, 10, rfl, rfl, enters_of Tryz.func106 (by kernel_rfl) rfl, step10 a⟩
 by_cases h11 : ([101, 110, 100, 108, 101, 115, 115] : List UInt8) = s
 · subst h11; exact .inr ⟨_, 11, rfl, rfl, enters_of Tryz.func107 (by kernel_rfl) rfl, step11 a⟩
 refine .inl ⟨?_, ?_⟩
 · unfold lookF keysF
   simp [beq_eq_false_iff_ne.2 h0, beq_eq_false_iff_ne.2 h1, beq_eq_false_iff_ne.2 h2, beq_eq_false_iff_ne.2 h3, beq_eq_false_iff_ne.2 h4, beq_eq_false_iff_ne.2 h5, beq_eq_false_iff_ne.2 h6, beq_eq_false_iff_ne.2 h7, beq_eq_false_iff_ne.2 h8, beq_eq_false_iff_ne.2 h9, beq_eq_false_iff_ne.2 h10, beq_eq_false_iff_ne.2 h11]
 · unfold keyNo keysK
   simp [List.findIdx?_cons, beq_eq_false_iff_ne.2 h0, beq_eq_false_iff_ne.2 h1, beq_eq_false_iff_ne.2 h2, beq_eq_false_iff_ne.2 h3, beq_eq_false_iff_ne.2 h4, beq_eq_false_iff_ne.2 h5, beq_eq_false_iff_ne.2 h6, beq_eq_false_iff_ne.2 h7, beq_eq_false_iff_ne.2 h8, beq_eq_false_iff_ne.2 h9, beq_eq_false_iff_ne.2 h10, beq_eq_false_iff_ne.2 h11]
theorem wpList_callV {w : World} {ops : Array Oper} {rest : List Oper} {o : Oper} {a : Act} {Q : Exit → Act → World → Prop} (hgd : o.guard = none) (x : Operand) (ho : o.op = .call { callee := .value x, args := #[], argTypes := #[] }) (rr n : Nat) (hx : a.eval x = fnV rr n) (eg : ∀ args w, (callFunc n args).run Tryz.prog w = .ok (.enter n args) w) (R : World → Prop)
   (h : Calls Tryz.prog n #[.pointer (some ⟨rr, 0, none⟩)] w fun e w' => (∃ v, e = .returned v) ∧ R w') (hK : ∀ v w', R w' → wpList Tryz.prog ops Q rest (a.put o.dst v) w') : wpList Tryz.prog ops Q (o :: rest) a w := by
 refine wpList_plain hgd fun K' hK' => ?_
 have hr : (execOp a.eval o).run Tryz.prog w = .ok (.enter n #[.pointer (some ⟨rr, 0, none⟩)]) w := by
   simp [execOp, ho, resolve, Deferred.ofValue, invoke, hx, fnV]
   exact eg _ w
 unfold Oper.wp
 rw [hr]
 exact h.mono (by rintro e w' ⟨⟨v, rfl⟩, hk⟩; exact hK' _ _ (hK v w' hk))
end Go.Proofs.YtbmcngoeinginaaGreatDoor
namespace Go.Proofs.YtbmcngoeinginaaGreatDoor
open Go Go.RowKit Go.Sort Go.Lib Go.MapKept
def zeroC : Array Value := #[.int .i64 0, .slice none 0 0, .slice none 0 0, .slice none 0 0, .int .i64 0, .bool false, .slice none 0 0, .int .i64 0, .int .i64 0]
theorem notT_game {q : Nat} {cs : Array Value} {W : World} (hx : W.heap[q]? = some (.cells cs 38 (0, 0))) {T : TypeId} (hT : T ≠ 38) : NotT T (fun b => b = q) W := fun b hb cs2 e => by
 have hb : b = q := hb
 subst hb
 rw [hx] at e
 cases e
 exact hT rfl
theorem own_low {n size k : Nat} {W W' : World} {e : TypeId} {v : Value} {xs : List Value} {S : Nat → Prop} (h : W.ownsRow n e size v k xs) (ha : Alters S W W') (hS : ∀ b, S b → b < n) : W'.ownsRow n e size v k xs :=
 World.ownsRow.altR h ha (fun b hb hv => by have := hS b hb; have := (World.ownsRow.lt h b hv.symm).1; omega)
theorem RdG.low {h r : Nat} {W W' : World} {g : GameD} {wv : Value} {S : Nat → Prop} (hg : RdG h r W g wv) (ha : Alters S W W') (hS : ∀ b, S b → b < h) (hr : ¬ S r) : RdG h r W' g wv := by
 obtain ⟨vn, vt, vk, vc, hx, ⟨rows, hn1, hn2⟩, ht, ⟨pvs, hl, hk1, hk2, hk3⟩, hc⟩ := hg
 refine ⟨vn, vt, vk, vc, (ha.block r (bx_lt hx) hr).trans hx, ⟨rows, own_low hn1 ha hS, fun j hj => ?_⟩, own_low ht ha hS, ⟨pvs, hl, own_low hk1 ha hS, fun i hi => ?_, hk3⟩, own_low hc ha hS⟩
 · obtain ⟨v, e, hv⟩ := hn2 j hj
   exact ⟨v, e, own_low hv ha hS⟩
 · obtain ⟨pv, e, ps, hp1, hp2⟩ := hk2 i hi
   refine ⟨pv, e, ps, own_low hp1 ha hS, fun j hj => ?_⟩;obtain ⟨v, e, hv⟩ := hp2 j hj;exact ⟨v, e, own_low hv ha hS⟩
theorem cells_inj {g : GameD} {x y : GPl} (h : g.cells x = g.cells y) : x = y := by
 cases x; cases y
 simp only [GameD.cells, Array.mk.injEq, List.cons.injEq, Value.slice.injEq, and_true, true_and] at h
 obtain ⟨⟨h1, h2⟩, ⟨h3, h4⟩, ⟨h5, h6⟩, h7, h8⟩ := h
 subst h1 h2 h3 h4 h5 h6 h7 h8
 rfl
theorem same_cells {g : GameD} {x y : GPl} {W : World} {r : Nat} {t : TypeId} {u v : Value} (h1 : W.heap[r]? = some (.cells ((g.cells x).push u) t (0, 0))) (h2 : W.heap[r]? = some (.cells ((g.cells y).push v) t (0, 0))) : x = y := by
 rw [h1] at h2
 have h2 := (Obj.cells.inj (Option.some.inj h2)).1
 have h3 := congrArg Array.pop h2
 exact cells_inj (by simpa using h3)
theorem cells_size (g : GameD) (x : GPl) : (g.cells x).size = 9 := rfl
theorem cells_one (g : GameD) (x : GPl) : (g.cells x).all (·.oneCell') = true := by simp [GameD.cells, Value.oneCell']
theorem read_end {h r q n : Nat} {w wr : World} {g : GameD} {wv : Value} (hg : RdG h r wr g wv) (hq : wr.heap[q]? = some (.cells zeroC 38 (0, 0))) (hqr : q ≠ r) (hb : Below q w wr) (hnh : n ≤ h) (hnr : n ≤ r) :
   ∃ x, Hid (wr.rangeAt r 0 (g.cells x).toList) ∧ Hid ((wr.setRow q (g.cells x)).heap[q]? = some (.cells (g.cells x) 38 (0, 0))) ∧ Hid (∃ y, Ending.returned (.agg (g.cells x)) = .returned (.agg (g.cells y)) ∧ GameIn (wr.setRow q (g.cells x)).heap.size (wr.setRow q (g.cells x)) y g ∧ (∀ W, Alters (fun b => b < n) (wr.setRow q (g.cells x)) W → GameIn W.heap.size W y g) ∧ Below q w (wr.setRow q (g.cells x))) := by
 obtain ⟨x, _, hbx⟩ := hg.game
 have hal : Alters (fun b => b = q) wr (wr.setRow q (g.cells x)) := ⟨rfl, rfl, rfl, by rw [size_setRow]; exact Nat.le_refl _, fun k _ hs => setRow_other wr q k _ hs⟩
 have hg2 : ∃ wv2, RdG h r (wr.setRow q (g.cells x)) g wv2 := by
   obtain ⟨vn, vt, vk, vc, hx, hn, ht, hk, hc⟩ := hg;exact ⟨wv, vn, vt, vk, vc, (setRow_other wr q r _ (fun e => hqr e.symm)).trans hx, hn.alt hal (notT_game hq (by decide)) (notT_game hq (by decide)), own_alt ht hal (notT_game hq (by decide)), hk.alt hal (notT_game hq (by decide)) (notT_game hq (by decide)) (notT_game hq (by decide)), own_alt hc hal (notT_game hq (by decide))⟩
 obtain ⟨wv2, hg2⟩ := hg2
 obtain ⟨y, hgi, hby⟩ := hg2.game
 have e : x = y := same_cells ((setRow_other wr q r (g.cells x) (fun e => hqr e.symm)).trans hbx) hby
 refine ⟨x, Lib.hid ?_, Lib.hid (setRow_heap wr q _ _ _ _ hq), Lib.hid ⟨y, by rw [e], hgi, fun W hW => by
   have hg3 := hg2.low hW (fun b hb => Nat.lt_of_lt_of_le hb hnh) (fun e => by have e : r < n := e; omega)
   obtain ⟨z, hgz, hbz⟩ := hg3.game
   have hbW := (hW.block r (Array.getElem?_eq_some_iff.1 hby).1 (fun e => by have e : r < n := e; omega)).trans hby
   rw [same_cells hbW hbz];exact hgz, hb.trans (hal.below (Nat.le_trans (Nat.le_of_lt (Array.getElem?_eq_some_iff.1 hq).1) (Nat.le_refl _)) (fun b hb => Nat.le_of_eq (by exact hb.symm)))⟩⟩
 intro j v hv
 rw [Nat.zero_add]
 refine bx_cell hbx j ?_
 have hj : j < (g.cells x).size := by
   rcases Nat.lt_or_ge j (g.cells x).size with h | h
   · exact h
   · rw [List.getElem?_eq_none (by simpa using h)] at hv; cases hv
 rw [Array.getElem?_push_lt hj]
 rw [Array.getElem?_toList, Array.getElem?_eq_getElem hj] at hv
 exact hv
set_option maxRecDepth 100000 in
set_option maxHeartbeats 2000000 in
theorem gread_any (s : List UInt8) (hs : s.length ≤ 1000000) (w : World) (hL : LibIn w) (hR : ResIn w) :
   Calls Tryz.prog 37 #[.string ⟨s.toArray⟩] w fun e w' => ∃ x, e = .returned (.agg ((readG s).cells x)) ∧ GameIn w'.heap.size w' x (readG s) ∧ (∀ W, Alters (fun b => b < w.heap.size) w' W → GameIn W.heap.size W x (readG s)) ∧ Below w.heap.size w w' := by
 have HLIN := Lib.hid (fun r w => lines_any r w)
 go_enter Tryz.func37, Tryz.ntmps37
 have hq1 : ((w.alloc (.cells zeroC 38)).alloc (.cells (zeroC.push (.slice none 0 0)) 112)).heap[w.heap.size]? = some (.cells zeroC 38 (0, 0)) := (Below.heap_alloc _ _ _ (by rw [World.size_alloc]; omega)).trans (World.alloc_heap_new _ _)
 have hx1 : RdBox (w.heap.size + 1) (.int .i64 0) (.slice none 0 0) (.slice none 0 0) (.slice none 0 0) (.int .i64 0) (.bool false) (.slice none 0 0) (.int .i64 0) (.int .i64 0) (.slice none 0 0) ((w.alloc (.cells zeroC 38)).alloc (.cells (zeroC.push (.slice none 0 0)) 112)) := by
   have := World.alloc_heap_new (w.alloc (.cells zeroC 38)) (.cells (zeroC.push (.slice none 0 0)) 112);rw [World.size_alloc] at this;exact this
 have hb1 : Below w.heap.size w ((w.alloc (.cells zeroC 38)).alloc (.cells (zeroC.push (.slice none 0 0)) 112)) := below_step (below_alloc (Below.refl _ w) _) (below_alloc (Below.refl _ _) _)
 have hs1 : ((w.alloc (.cells zeroC 38)).alloc (.cells (zeroC.push (.slice none 0 0)) 112)).heap.size = w.heap.size + 2 := by rw [World.size_alloc, World.size_alloc]
 go_wp2_with fail
 refine (HLIN.out (w.heap.size + 1) ((w.alloc (.cells zeroC 38)).alloc (.cells (zeroC.push (.slice none 0 0)) 112))).mono ?_
 generalize ((w.alloc (.cells zeroC 38)).alloc (.cells (zeroC.push (.slice none 0 0)) 112)) = w1 at *
 rintro e w2 ⟨rfl, hM2, hrr2, hb2⟩
 obtain ⟨rr, hrr⟩ : ∃ rr, rr = w1.heap.size := ⟨_, rfl⟩
 rw [← hrr] at hM2 hrr2
 (try simp only [← hrr])
 have hq2 := (hb2.block _ (bx_lt hq1)).trans hq1
 have hx2 : RdBox (w.heap.size + 1) (.int .i64 0) (.slice none 0 0) (.slice none 0 0) (.slice none 0 0) (.int .i64 0) (.bool false) (.slice none 0 0) (.int .i64 0) (.int .i64 0) (.slice none 0 0) w2 := (hb2.block _ (bx_lt hx1)).trans hx1
 have hb02 := below_step hb1 hb2
 have HSP := Lib.hid (split_any s 10 75 (by omega) (by omega) (by omega) w2 (hL.up hb02))
 have HPL := Lib.hid (fun x (h : x ∈ splitN s [10] 75) => piece_le s 10 75 h)
 have HPN := Lib.hid (pieces_n s 10 75 (by omega)).1
 have HRG := Lib.hid (show readG s = (splitN s [10] 75).foldl lineG zeroG from rfl)
 clear hb2 hq1 hx1 hb1
 go_wp2_with fail
 refine HSP.out.mono ?_
 generalize splitN s [10] 75 = ls at *
 rintro e w3 ⟨cap, cs, rfl, hcap, hw3, hcs⟩
 have hb3 : Below w2.heap.size w2 w3 := hw3 ▸ below_alloc (Below.refl _ w2) _
 have hl3' : w3.heap[w2.heap.size]? = some (.cells cs 9 (0, 0)) := hw3 ▸ World.alloc_heap_new _ _
 obtain ⟨lb, hlb⟩ : ∃ lb, lb = w2.heap.size := ⟨_, rfl⟩
 rw [← hlb] at hl3'
 (try simp only [← hlb])
 have hl3 := hl3'
 have hM3 : MapF rr (rr + 1) w3 := (hb3.block (rr + 1) (Array.getElem?_eq_some_iff.1 hM2).1).trans hM2
 have hrr3 := cell_keep hb3 hrr2
 have hq3 := (hb3.block _ (bx_lt hq2)).trans hq2
 have hx3 : RdBox (w.heap.size + 1) (.int .i64 0) (.slice none 0 0) (.slice none 0 0) (.slice none 0 0) (.int .i64 0) (.bool false) (.slice none 0 0) (.int .i64 0) (.int .i64 0) (.slice none 0 0) w3 := (hb3.block _ (bx_lt hx2)).trans hx2
 have hb03 := below_step hb02 hb3
 have hg3 : RdG w3.heap.size (w.heap.size + 1) w3 zeroG (.slice none 0 0) := ⟨.slice none 0 0, .slice none 0 0, .slice none 0 0, .slice none 0 0, hx3, ⟨[], World.ownsRow_nil _ _ _ _, fun j hj => absurd hj (by simp [zeroG])⟩, World.ownsRow_nil _ _ _ _, ⟨[], rfl, World.ownsRow_nil _ _ _ _, fun i hi => absurd hi (by simp [zeroG]), fun i j p q _ h => by simp at h⟩, World.ownsRow_nil _ _ _ _⟩
 have HRR : Hid (rr ≠ w.heap.size + 1 ∧ w.heap.size + 1 < w3.heap.size ∧ w.heap.size < w3.heap.size ∧ rr < w3.heap.size ∧ rr + 1 < w3.heap.size ∧ lb < w3.heap.size ∧ lb ≠ w.heap.size + 1 ∧ rr + 1 ≠ w.heap.size + 1) := Lib.hid (by
   have h1 := World.block_lt_of_cell? _ _ hrr3;have h2 := bx_lt hM3;have h3 := bx_lt hl3;have h4 := bx_lt hx3;have h5 := bx_lt hx2;have h6 : rr < w3.heap.size := h1
   omega)
 have HCS := Lib.hid hcs
 have HL := Lib.hid hL
 have HR := Lib.hid hR
 have HB3 := Lib.hid hb03
 obtain ⟨r, hr⟩ : ∃ r, w.heap.size + 1 = r := ⟨_, rfl⟩
 have HRE : Hid (w.heap.size ≤ r ∧ w.heap.size ≠ r) := Lib.hid (by omega)
 rw [hr] at hrr3 hx3 hg3 HRR
 (try simp only [hr])
 obtain ⟨h, hh⟩ : ∃ h, w3.heap.size = h := ⟨_, rfl⟩
 rw [hh] at hg3 HRR
 have HHE : Hid (h = w3.heap.size) := Lib.hid hh.symm
 clear hw3 hlb hrr hs1 hM2 hrr2 hq2 hx2 hb02 hb3 hL hR hb03 hr hl3' hh hx3
 clear HSP HLIN hcs
 go_wp2
 go_loopw [16] (fun v wr => ∃ q : Nat, q ≤ ls.length ∧ v = .int .i64 (q : Int) ∧ (∃ wv, RdG h r wr ((ls.take q).foldl lineG zeroG) wv) ∧ Alters (fun b => b = r ∨ h ≤ b) w3 wr) (fun v _ => (ls.length - intOf v).toNat)
 case atStart => exact ⟨0, Nat.zero_le _, rfl, ⟨_, hg3⟩, Alters.refl _ _⟩
 case round =>
   clear hg3;obtain ⟨q, hq, rfl, ⟨wv, hg⟩, ha⟩ := hrel;obtain ⟨hne, hrh, hqh, hrrh, hmh, hlh, hlr, hmr⟩ := HRR.out;have hh3 : h ≤ w3.heap.size := Nat.le_of_eq HHE.out;have hhr : h ≤ wr.heap.size := Nat.le_trans hh3 ha.size
   have hold : ∀ b, b < h → b ≠ r → wr.heap[b]? = w3.heap[b]? := fun b hb hbr => ha.block b (by omega) (fun e => by omega)
   have hbw : Below w.heap.size w wr := HB3.out.trans (ha.below HB3.out.size (fun b hb => by have := HRE.out.1; omega))
   by_cases hlt : q < ls.length
   · have hln := HPL.out _ (List.getElem_mem hlt)
     have hcq : wr.cell? ⟨lb, q, none⟩ = some (.string ⟨(ls[q]'hlt).toArray⟩) := by
       rw [World.cell?_of_block (a := ⟨lb, q, none⟩) (hold lb hlh hlr)];unfold World.cell?;rw [hl3];exact HCS.out q hlt
     have HTK : Hid ((ls.take (q + 1)).foldl lineG zeroG = lineG ((ls.take q).foldl lineG zeroG) (ls[q]'hlt)) := Lib.hid (by rw [List.take_add_one, List.getElem?_eq_getElem hlt, List.foldl_append]; rfl)
     have HFW := Lib.hid (take_few ls q HPN.out);generalize (ls.take q).foldl lineG zeroG = gq at *;generalize ls[q] = line at *;have HSQ := Lib.hid (split_any line 32 66 (by omega) (by omega) (by omega) wr (HL.out.up hbw));have HWL := Lib.hid (pieces_n line 32 66 (by omega)).1;have HWX := Lib.hid (fun x (hx : x ∈ splitN line [32] 66) => piece_le line 32 66 hx);have HLG : Hid (lineG gq line = (match keyNo (headW (splitN line [32] 66)) with | some i => stepN gq i (splitN line [32] 66).tail | none => gq)) := Lib.hid rfl;generalize splitN line [32] 66 = ws at *
     have t3 : decide ((q : Int) < (ls.length : Int)) = true := by rw [decide_eq_true_eq]; omega
     have t3' : decide (q < ls.length) = true := by simpa using hlt
     have b3 : (0 : Int) ≤ (q : Int) := by omega
     have b4 : (q : Int) < (ls.length : Int) := by omega
     have y0 : IntKind.i64.wrap ((q : Int) + 1) = (q : Int) + 1 := IntWalk.i64_in _ (by have := HPN.out; omega)
     obtain ⟨vn, vt, vk, vc, hx, hn, ht, hk, hc⟩ := hg
     go_wp2_with fail
     refine HSQ.out.mono ?_;rintro e w5 ⟨cap5, cs5, rfl, hcap5, hw5, hcs5⟩;have hwd5 := pieces_in hcap5 hw5 hcs5;have hb5 : Below wr.heap.size wr w5 := hw5 ▸ below_alloc (Below.refl _ wr) _;clear hw5 hcs5;have hx5 : RdBox r _ _ _ _ _ _ _ _ _ _ w5 := (hb5.block r (bx_lt hx)).trans hx;have q9 := bx_has hx5 9 _ rfl;have f9 := bx_frozen hx5 9;obtain ⟨wb, hwb⟩ : ∃ wb, wr.heap.size = wb := ⟨_, rfl⟩;rw [hwb] at hwd5
     have hx6 : RdBox r (.int .i64 gq.b.cells) vn vt vk (.int .i64 gq.rights) (.bool gq.must) vc (.int .i64 gq.blocked) (.int .i64 gq.endless) (.slice (some ⟨wb, 0, none⟩) ws.length cap5) (w5.setCell ⟨r, 9, none⟩ (.slice (some ⟨wb, 0, none⟩) ws.length cap5)) := by
       unfold RdBox
       rw [bx_set_ hx5 9]; rfl
     have hal := alters_cell w5 r 9 (.slice (some ⟨wb, 0, none⟩) ws.length cap5);have hwd6 := hwd5.alters hal (rd_not hx5);have ha6 : Alters (fun b => b = r) wr (w5.setCell ⟨r, 9, none⟩ (.slice (some ⟨wb, 0, none⟩) ws.length cap5)) := (Alters.of_below hb5).trans hal;have HX6 := Lib.hid hx6;have HWD6 := Lib.hid hwd6;have HA6 := Lib.hid ha6;have HX := Lib.hid hx;clear hx6 hal hwd6 ha6 hwd5 hx hcq
     go_wp2_with fail
     generalize w5.setCell ⟨r, 9, none⟩ (.slice (some ⟨wb, 0, none⟩) ws.length cap5) = w6 at *
     refine (next_full r _ _ _ _ _ _ _ _ _ _ ws w6 HX6.out HWD6.out (by have := HWL.out; omega)).mono ?_
     rintro e w7 ⟨rfl, wv7, hx7, hwd7, ha67⟩;have ha7 := HA6.out.trans ha67;have hx := HX.out;have hg7 : RdG h r w7 gq wv7 := ⟨vn, vt, vk, vc, hx7, hn.alt ha7 (notT_box hx (by decide)) (notT_box hx (by decide)), own_alt ht ha7 (notT_box hx (by decide)), hk.alt ha7 (notT_box hx (by decide)) (notT_box hx (by decide)) (notT_box hx (by decide)), own_alt hc ha7 (notT_box hx (by decide))⟩;have ha37 : Alters (fun b => b = r ∨ h ≤ b) w3 w7 := ha.trans (ha7.mono (fun _ _ e => .inl e))
     have hold7 : ∀ b, b < h → b ≠ r → w7.heap[b]? = w3.heap[b]? := fun b hb hbr => ha37.block b (by omega) (fun e => by omega)
     have hb7 : Below w.heap.size w w7 := HB3.out.trans (ha37.below HB3.out.size (fun b hb => by have := HRE.out.1; omega))
     have hM7 : MapF rr (rr + 1) w7 := (hold7 (rr + 1) hmh hmr).trans hM3
     have hat : RdAt w w7 h r rr gq wv7 ws.tail := ⟨(World.cell?_of_block (a := ⟨rr, 0, none⟩) (hold7 rr hrrh hne)).trans hrr3, hne, hrrh, hrh, Nat.le_trans hhr ha7.size, hg7, hwd7, by have := HWL.out; rw [List.length_tail]; omega, fun x hx => by have := HWX.out x (List.mem_of_mem_tail hx); omega, by
       have h1 := join_len ws.tail 1000000 (fun x hx => by have := HWX.out x (List.mem_of_mem_tail hx); omega)
       have h2 := HWL.out
       have h3 : ws.tail.length * (1000000 + 1) ≤ 66 * (1000000 + 1) := Nat.mul_le_mul_right _ (by rw [List.length_tail]; omega)
       omega, HFW.out.mono (by omega), HL.out, HR.out, HRE.out.1, hb7⟩
     have hlk := run_lookF hM7 (headW ws);have hfn := fn_any hat (headW ws);have HG7 := Lib.hid hg7;have HA37 := Lib.hid ha37;clear hx7 hwd7 ha67 ha7 hx hg7 hold7 hb7 hat hn ht hk hc HX HX6 HWD6 HA6 hx5 q9 f9 ha37 hb5 hwb HSQ ha hold hbw
     rcases hfn with ⟨hl0, hk0⟩ | ⟨n, i, hl0, hk0, hen, hcall⟩
     · rw [hl0] at hlk
       have HKN := Lib.hid hk0;clear hl0 hk0
       go_wp2_with fail
       refine ⟨⟨q + 1, by omega, by go_num, ⟨wv7, by rw [HTK.out, HLG.out, HKN.out]; exact HG7.out⟩, HA37.out⟩, ?_⟩
       simp [intOf]; omega
     · rw [hl0] at hlk
       have HKN := Lib.hid hk0;have HEN := Lib.hid hen;have HCALL := Lib.hid hcall;clear hl0 hk0 hen hcall
       go_wp2_with (refine wpList_callV rfl (.tmp 33) rfl rr n rfl HEN.out _ HCALL.out ?_; intro v8 w8 hS8; have HS8 := Lib.hid hS8; clear hS8)
       obtain ⟨wv8, hg8, ha8⟩ := HS8.out
       refine ⟨⟨q + 1, by omega, by go_num, ⟨wv8, by rw [HTK.out, HLG.out, HKN.out]; exact hg8⟩, HA37.out.trans ha8⟩, ?_⟩
       simp [intOf]; omega
   · obtain rfl : q = ls.length := by omega
     rw [List.take_length, ← HRG.out] at hg;have hqr := (hold w.heap.size hqh HRE.out.2).trans hq3;obtain ⟨x, HRNG, HQX, HFIN⟩ := read_end (n := w.heap.size) hg hqr HRE.out.2 hbw (Nat.le_of_lt hqh) HRE.out.1;have HIG : (Tryz.prog.info? 38).map (·.size) = some 9 := info_gameC;have HQR := Lib.hid hqr;have HSZ := Lib.hid (cells_size (readG s) x);have HALL := Lib.hid (cells_one (readG s) x)
     have HIS : Hid ((Tryz.prog.info? 38).map (·.size) = some ((readG s).cells x).size) := Lib.hid (by rw [cells_size]; exact info_gameC)
     have HZS : Hid (zeroC.size = ((readG s).cells x).size) := Lib.hid (by rw [cells_size]; rfl)
     clear hg hqr hold ha hq3 hM3 hrr3 hl3;go_wp2_with (first | (refine wpList_load_mid rfl 38 (.tmp 38) rfl r 0 rfl ((readG s).cells x).toList _ HRNG.out Tryz.underlying38 rfl HIG ?_) | (refine wpList_store_row rfl 38 (.tmp 2) (.tmp 39) rfl w.heap.size ((readG s).cells x) rfl rfl 38 zeroC HQR.out HIS.out HZS.out HALL.out ?_));(try simp only [Exit.inBlock, Exit.then]);refine bodyPost_ret_by (v := .agg ((readG s).cells x)) (results_cell_row rfl _ _ w.heap.size 38 _ (0, 0) _ rfl HQX.out Tryz.underlying38 rfl HIG) rfl ?_;exact HFIN.out
end Go.Proofs.YtbmcngoeinginaaGreatDoor
namespace Go.Proofs.YtbmcngoeinginaaGreatDoor
open Go Go.RowKit Go.Sort Go.Lib Go.MapKept
def okG (s : List UInt8) : Bool := validG (readG s) && decide (writtenG (readG s) = s)
def parsedG (s : List UInt8) : GameD := if okG s = true then readG s else zeroG
def parsedE (s : List UInt8) : Int := if okG s = true then 0 else 3
theorem zero_in (n : Nat) (W : World) : GameIn n W ⟨none, 0, none, 0, none, 0, none, 0⟩ zeroG := ⟨⟨.inl rfl, .inl rfl⟩, .inl rfl, .inl rfl⟩
theorem setRow_alters (W : World) (q : Nat) (cs : Array Value) : Alters (fun b => b = q) W (W.setRow q cs) := ⟨rfl, rfl, rfl, by rw [size_setRow]; exact Nat.le_refl _, fun k _ hs => setRow_other W q k _ hs⟩
def GParsed (s : List UInt8) (w : World) (e : Ending) (w' : World) : Prop := ∃ x, e = .returned (.tuple #[.agg ((parsedG s).cells x), .int .i64 (parsedE s)]) ∧ GameIn w'.heap.size w' x (parsedG s) ∧ Below w.heap.size w w'
set_option maxRecDepth 100000 in
set_option maxHeartbeats 2000000 in
theorem gparse_any (s : List UInt8) (hs : s.length ≤ 1000000) (w : World) (hL : LibIn w) (hR : ResIn w) :
   Calls Tryz.prog 13 #[.string ⟨s.toArray⟩] w (GParsed s w) := by
 have HPG := Lib.hid (show parsedG s = if (validG (readG s) && decide (writtenG (readG s) = s)) = true then readG s else zeroG from rfl)
 have HPE := Lib.hid (show parsedE s = if (validG (readG s) && decide (writtenG (readG s) = s)) = true then 0 else 3 from rfl)
 have HRD := Lib.hid (fun W (h : Below w.heap.size w W) => gread_any s hs W (hL.up h) (hR.up h))
 have HL := Lib.hid hL
 have HR := Lib.hid hR
 have hbA : Below w.heap.size w (w.alloc (.cells zeroC 38)) := below_alloc (Below.refl _ w) _
 have hZ0 : (w.alloc (.cells zeroC 38)).heap[w.heap.size]? = some (.cells zeroC 38 (0, 0)) := World.alloc_heap_new _ _
 clear hL hR hs
 go_enter Tryz.func13, Tryz.ntmps13
 go_wp2_with fail
 refine (HRD.out (w.alloc (.cells zeroC 38)) hbA).mono ?_
 generalize w.alloc (.cells zeroC 38) = w1 at *
 rintro e w2 ⟨x, rfl, hG, hK, hb2⟩
 have hZ2 := (hb2.block _ (bx_lt hZ0)).trans hZ0
 have hl0 := bx_lt hZ0
 have hbw2 := below_step hbA hb2
 generalize readG s = g at *
 have hbA2 : Below w2.heap.size w2 (w2.alloc (.cells (g.cells x) 38)) := below_alloc (Below.refl _ _) _
 have hX3 : (w2.alloc (.cells (g.cells x) 38)).heap[w2.heap.size]? = some (.cells (g.cells x) 38 (0, 0)) := World.alloc_heap_new _ _
 unfold GameD.cells at hbA2 hX3 ⊢
 go_upto_region 2 with (fail)
 obtain ⟨B, hBe⟩ : ∃ B, w2.heap.size = B := ⟨_, rfl⟩
 have HBE := Lib.hid hBe
 rw [hBe] at hX3
 (try simp only [hBe])
 have HZ3 := Lib.hid ((hbA2.block _ (bx_lt hZ2)).trans hZ2)
 have HBW3 := Lib.hid (below_step hbw2 hbA2)
 have HG3 := Lib.hid ((hG.up (Nat.le_refl _) hbA2))
 have HK3 : Hid (∀ W W', Below w2.heap.size w2 W → Alters (fun b => b < w1.heap.size) W W' → GameIn W'.heap.size W' x g) := Lib.hid (fun W W' h1 h2 => hK W' ((Alters.of_below h1).trans h2))
 have HS12 : Hid (w1.heap.size ≤ w2.heap.size) := Lib.hid hb2.size
 clear hBe
 generalize w2.alloc _ = w3 at *
 have HBA2 := Lib.hid hbA2
 have HL0 := Lib.hid hl0
 have HX3 := Lib.hid hX3
 have HV := Lib.hid (gvalid_any g x w2.heap.size w3 hbA2.size HG3.out (HL.out.up HBW3.out).signs)
 clear hbA hbA2 hX3 hG hK hZ2 hZ0 hb2 hbw2 HRD hl0
 unfold GameD.cells at HV
 have q0 := bx_cell HX3.out 0 rfl
 have q1 := bx_cell HX3.out 1 rfl
 have q2 := bx_cell HX3.out 2 rfl
 have q3 := bx_cell HX3.out 3 rfl
 have q4 := bx_cell HX3.out 4 rfl
 have q5 := bx_cell HX3.out 5 rfl
 have q6 := bx_cell HX3.out 6 rfl
 have q7 := bx_cell HX3.out 7 rfl
 have q8 := bx_cell HX3.out 8 rfl
 have hlB := bx_lt HX3.out
 go_wp2_with fail
 refine HV.out.mono ?_
 rintro e w4 ⟨rfl, hb4⟩
 have HB4 := Lib.hid (below_step HBA2.out hb4)
 have HX4 := Lib.hid ((hb4.block _ (bx_lt HX3.out)).trans HX3.out)
 have HZ4 := Lib.hid ((hb4.block _ (bx_lt HZ3.out)).trans HZ3.out)
 have HBW4 := Lib.hid (below_step HBW3.out hb4)
 have HG4 := Lib.hid (HG3.out.up HBA2.out.size hb4)
 clear q0 q1 q2 q3 q4 q5 q6 q7 q8 hlB hb4 HX3 HZ3 HBW3 HG3 HV
 cases hv : validG g with
 | false =>
   have HP : Hid (parsedG s = zeroG ∧ parsedE s = 3) := Lib.hid ⟨by rw [HPG.out, hv]; rfl, by rw [HPE.out, hv]; rfl⟩
   clear hv HPG HPE;have HIS : Hid ((Tryz.prog.info? 38).map (·.size) = some (zeroC.size)) := Lib.hid info_gameC;have HQX : Hid ((w4.setRow w.heap.size zeroC).heap[w.heap.size]? = some (.cells zeroC 38 (0, 0))) := Lib.hid (setRow_heap w4 w.heap.size _ _ _ _ HZ4.out);have hlq := bx_lt HZ4.out
   have hzo : zeroC.all (·.oneCell') = true := by simp [zeroC, Value.oneCell']
   go_wp2_with (refine wpList_store_row rfl 38 (.tmp 2) (.tmp 16) rfl w.heap.size zeroC rfl rfl 38 zeroC HZ4.out HIS.out rfl hzo ?_);have hal := setRow_alters w4 w.heap.size zeroC;have hbz : Below w.heap.size w (w4.setRow w.heap.size zeroC) := HBW4.out.trans (hal.below HBW4.out.size (fun b hb => Nat.le_of_eq (by exact hb.symm)));generalize w4.setRow w.heap.size zeroC = w9 at *;clear hal;unfold zeroC at HQX;have q0 := bx_cell HQX.out 0 rfl;have q1 := bx_cell HQX.out 1 rfl;have q2 := bx_cell HQX.out 2 rfl;have q3 := bx_cell HQX.out 3 rfl;have q4 := bx_cell HQX.out 4 rfl;have q5 := bx_cell HQX.out 5 rfl;have q6 := bx_cell HQX.out 6 rfl;have q7 := bx_cell HQX.out 7 rfl;have q8 := bx_cell HQX.out 8 rfl
   refine bodyPost_ret_by (v := .tuple #[.agg #[.int .i64 0, .slice none 0 0, .slice none 0 0, .slice none 0 0, .int .i64 0, .bool false, .slice none 0 0, .int .i64 0, .int .i64 0], .int .i64 3]) (by rw [results_cell_tmp rfl]; go_simp) rfl ?_
   unfold GParsed;rw [HP.out.1, HP.out.2];exact ⟨⟨none, 0, none, 0, none, 0, none, 0⟩, rfl, zero_in _ _, hbz⟩
 | true =>
   have HVT := Lib.hid hv;have HBD := Lib.hid (validG_bounds hv);clear hv;have HW := Lib.hid (gwritten_any g x w2.heap.size w4 HB4.out.size HG4.out (HL.out.up HBW4.out) (HR.out.up HBW4.out) HBD.out);unfold GameD.cells at HW;have hx4 := HX4.out;have q0 := bx_cell hx4 0 rfl;have q1 := bx_cell hx4 1 rfl;have q2 := bx_cell hx4 2 rfl;have q3 := bx_cell hx4 3 rfl;have q4 := bx_cell hx4 4 rfl;have q5 := bx_cell hx4 5 rfl;have q6 := bx_cell hx4 6 rfl;have q7 := bx_cell hx4 7 rfl;have q8 := bx_cell hx4 8 rfl;have hlB := bx_lt hx4;clear hx4
   go_wp2_with fail
   refine HW.out.mono ?_;rintro e w5 ⟨rfl, hb5⟩;have HB5 := Lib.hid (below_step HB4.out hb5);have HX5 := Lib.hid ((hb5.block _ (bx_lt HX4.out)).trans HX4.out);have HZ5 := Lib.hid ((hb5.block _ (bx_lt HZ4.out)).trans HZ4.out);have HBW5 := Lib.hid (below_step HBW4.out hb5);clear q0 q1 q2 q3 q4 q5 q6 q7 q8 hlB hb5 HX4 HZ4 HBW4 HG4 HW
   by_cases ht : writtenG g = s
   · have t3 : decide (writtenG g = s) = true := by simpa using ht
     have HP : Hid (parsedG s = g ∧ parsedE s = 0) := Lib.hid ⟨by rw [HPG.out, HVT.out, t3]; rfl, by rw [HPE.out, HVT.out, t3]; rfl⟩
     rw [ht];clear ht t3 HPG HPE;have hx5 := HX5.out;have q0 := bx_cell hx5 0 rfl;have q1 := bx_cell hx5 1 rfl;have q2 := bx_cell hx5 2 rfl;have q3 := bx_cell hx5 3 rfl;have q4 := bx_cell hx5 4 rfl;have q5 := bx_cell hx5 5 rfl;have q6 := bx_cell hx5 6 rfl;have q7 := bx_cell hx5 7 rfl;have q8 := bx_cell hx5 8 rfl;have hlB := bx_lt hx5;clear hx5;have hlq := bx_lt HZ5.out
     go_wp2_with (refine wpList_store_row rfl 38 (.tmp 2) (.tmp 17) rfl w.heap.size (g.cells x) rfl rfl 38 zeroC HZ5.out (by rw [cells_size]; exact info_gameC) (by rw [cells_size]; rfl) (cells_one g x) ?_)
     have hal := setRow_alters w5 w.heap.size (g.cells x);have hbz : Below w.heap.size w (w5.setRow w.heap.size (g.cells x)) := HBW5.out.trans (hal.below HBW5.out.size (fun b hb => Nat.le_of_eq (by exact hb.symm)))
     have HGF := Lib.hid (HK3.out w5 (w5.setRow w.heap.size (g.cells x)) HB5.out (hal.mono (fun b _ hb => by have hb : b = w.heap.size := hb; rw [hb]; exact HL0.out)))
     have HQX : Hid ((w5.setRow w.heap.size (g.cells x)).heap[w.heap.size]? = some (.cells (g.cells x) 38 (0, 0))) := Lib.hid (setRow_heap w5 w.heap.size _ _ _ _ HZ5.out);clear q0 q1 q2 q3 q4 q5 q6 q7 q8 hlB hlq;generalize w5.setRow w.heap.size (g.cells x) = w9 at *;clear hal;unfold GameD.cells at HQX;have q0 := bx_cell HQX.out 0 rfl;have q1 := bx_cell HQX.out 1 rfl;have q2 := bx_cell HQX.out 2 rfl;have q3 := bx_cell HQX.out 3 rfl;have q4 := bx_cell HQX.out 4 rfl;have q5 := bx_cell HQX.out 5 rfl;have q6 := bx_cell HQX.out 6 rfl;have q7 := bx_cell HQX.out 7 rfl;have q8 := bx_cell HQX.out 8 rfl
     refine bodyPost_ret_by (v := .tuple #[.agg (g.cells x), .int .i64 0]) (by unfold GameD.cells; rw [results_cell_tmp rfl]; go_simp) rfl ?_
     unfold GParsed;rw [HP.out.1, HP.out.2];exact ⟨x, rfl, HGF.out, hbz⟩
   · have t3 : decide (writtenG g = s) = false := by simpa using ht
     have HP : Hid (parsedG s = zeroG ∧ parsedE s = 3) := Lib.hid ⟨by rw [HPG.out, HVT.out, t3]; rfl, by rw [HPE.out, HVT.out, t3]; rfl⟩
     generalize writtenG g = tx at *
     have t4 : (tx == s) = false := by simpa using ht
     clear ht t3 HPG HPE;have HIS : Hid ((Tryz.prog.info? 38).map (·.size) = some (zeroC.size)) := Lib.hid info_gameC;have HQX : Hid ((w5.setRow w.heap.size zeroC).heap[w.heap.size]? = some (.cells zeroC 38 (0, 0))) := Lib.hid (setRow_heap w5 w.heap.size _ _ _ _ HZ5.out);have hlq := bx_lt HZ5.out
     have hzo : zeroC.all (·.oneCell') = true := by simp [zeroC, Value.oneCell']
     go_wp2_with (refine wpList_store_row rfl 38 (.tmp 2) (.tmp 16) rfl w.heap.size zeroC rfl rfl 38 zeroC HZ5.out HIS.out rfl hzo ?_);have hal := setRow_alters w5 w.heap.size zeroC;have hbz : Below w.heap.size w (w5.setRow w.heap.size zeroC) := HBW5.out.trans (hal.below HBW5.out.size (fun b hb => Nat.le_of_eq (by exact hb.symm)));generalize w5.setRow w.heap.size zeroC = w9 at *;clear hal;unfold zeroC at HQX;have q0 := bx_cell HQX.out 0 rfl;have q1 := bx_cell HQX.out 1 rfl;have q2 := bx_cell HQX.out 2 rfl;have q3 := bx_cell HQX.out 3 rfl;have q4 := bx_cell HQX.out 4 rfl;have q5 := bx_cell HQX.out 5 rfl;have q6 := bx_cell HQX.out 6 rfl;have q7 := bx_cell HQX.out 7 rfl;have q8 := bx_cell HQX.out 8 rfl
     refine bodyPost_ret_by (v := .tuple #[.agg #[.int .i64 0, .slice none 0 0, .slice none 0 0, .slice none 0 0, .int .i64 0, .bool false, .slice none 0 0, .int .i64 0, .int .i64 0], .int .i64 3]) (by rw [results_cell_tmp rfl]; go_simp) rfl ?_
     unfold GParsed;rw [HP.out.1, HP.out.2];exact ⟨⟨none, 0, none, 0, none, 0, none, 0⟩, rfl, zero_in _ _, hbz⟩
end Go.Proofs.YtbmcngoeinginaaGreatDoor
namespace Go.Proofs.YtbmcngoeinginaaGreatDoor
open Go Go.RowKit
def textS : List UInt8 := [98, 111, 97, 114, 100, 32, 50, 32, 49, 10, 100, 105, 114, 32, 49, 32, 45, 49, 10, 116, 117, 114, 110, 32, 48, 10, 107, 105, 110, 100, 32, 97, 10, 112, 114, 111, 103, 32, 103, 111, 48, 32, 101, 109, 112, 116, 121, 10, 114, 105, 103, 104, 116, 115, 32, 48, 10, 98, 108, 111, 99, 107, 101, 100, 32, 108, 111, 115, 115, 10, 101, 110, 100, 108, 101, 115, 115, 32, 100, 114, 97, 119, 10]
def smallG : GameD := ⟨⟨2, [[1, -1]], [0]⟩, [⟨[97], [[(1, 0), (3, 0)]], false⟩], 0, false, [], 3, 2⟩
def oneG : GameD := { smallG with clauses := [⟨2, 0, 1, 1⟩] }
def twoG : GameD := { smallG with clauses := [⟨2, 0, 2, 1⟩] }
theorem small_valid : validG smallG = true := by decide +kernel
theorem one_valid : validG oneG = true := by decide +kernel
theorem two_valid : validG twoG = false := by decide +kernel
theorem zero_valid : validG zeroG = false := by decide +kernel
theorem small_written : writtenG smallG = textS := by decide +kernel
theorem small_print : printG smallG = textS := by unfold printG; rw [if_pos small_valid, small_written]
theorem small_finda : findD smallG.kinds [97] = 0 := by decide +kernel
theorem small_findb : findD smallG.kinds [98] = -1 := by decide +kernel
theorem read_small : readG textS = smallG := by kernel_rfl
theorem text_ok : okG textS = true := by unfold okG; rw [read_small, small_valid, small_written]; simp
theorem empty_ok : okG [] = false := by decide +kernel
theorem text2_ok : okG (textS ++ [10]) = false := by decide +kernel
theorem parse_small : parsedG textS = smallG ∧ parsedE textS = 0 := by unfold parsedG parsedE; rw [text_ok, if_pos rfl, if_pos rfl]; exact ⟨read_small, rfl⟩
theorem parse_empty : parsedG [] = zeroG ∧ parsedE [] = 3 := by unfold parsedG parsedE; rw [empty_ok]; exact ⟨rfl, rfl⟩
theorem parse_text2 : parsedG (textS ++ [10]) = zeroG ∧ parsedE (textS ++ [10]) = 3 := by unfold parsedG parsedE; rw [text2_ok]; exact ⟨rfl, rfl⟩
end Go.Proofs.YtbmcngoeinginaaGreatDoor
