/-
  PosSorts returns true, given that the examples do.
-/

import Derived.Test.YtphhkfelpckilaaGreatDoorGGame
import Derived.Test.YtphhkfelpckilaaGreatDoorPSrtA
import Derived.Test.YtphhkfelpckilaaGreatDoorDParse
import Derived.Deep.QuietTactic
namespace Go.Proofs.YtphhkfelpckilaaGreatDoor
open Go Go.RowKit Go.Lib Go.Sort
attribute [local irreducible] Go.wpQuiet

set_option maxRecDepth 100000 in
set_option maxHeartbeats 1500000 in
theorem psrt_any (Lib4 : World → Prop) (hS : ∀ W, Lib4 W → Calls Tryz.prog 12 #[] W fun e w' => e = .returned (.bool true) ∧ Below W.heap.size W w')
    (hUp : ∀ W W', Lib4 W → Below W.heap.size W W' → Lib4 W')
    (x : GRaw) (a0 a1 a2 : Option Addr) (c0 c1 c2 N : Nat) (l : List PRaw) (al : Option Addr) (cl n : Nat) (w : World) (hL : Lib4 w) (hN : N ≤ w.heap.size) (hI : GRawIn N w a0 a1 a2 x) (hl : PRs N w al l) (hn : n ≤ 255) :
    Calls Tryz.prog 5 #[.agg (x.cells a0 a1 a2 c0 c1 c2), .slice al l.length cl, .int .u8 (n : Int)] w fun e w' => e = .returned (.bool true) ∧ Below w.heap.size w w' := by
  have HMG := Lib.hid (fun W h => made_game x a0 a1 a2 c0 c1 c2 N W h)
  have hsx : (x.cells a0 a1 a2 c0 c1 c2).size = 12 := rfl
  generalize x.cells a0 a1 a2 c0 c1 c2 = xs at *
  go_enter Tryz.func5, Tryz.ntmps5
  go_upto_region 1 with (fail)
  have hb0 : Below w.heap.size w (w.alloc (.cells xs 27)) := below_alloc (Below.refl _ _) _
  have hX0 : (w.alloc (.cells xs 27)).heap[w.heap.size]? = some (.cells xs 27 (0, 0)) := World.alloc_heap_new _ _
  generalize (w.alloc (.cells xs 27)) = w0 at *
  go_wp2_with fail
  refine (hS w0 (hUp _ _ hL hb0)).mono ?_
  rintro e w1 ⟨rfl, hb1⟩
  have hX1 := (hb1.block _ (bx_lt hX0)).trans hX0
  have hbw1 := below_step hb0 hb1
  have hI1 := hI.up hN hbw1
  have hN1 := Nat.le_trans hN hbw1.size
  clear hX0 hb0 hb1 hS hUp hL
  go_wp2_with (with_reducible refine wpList_load_row rfl 27 (.tmp 3) rfl w.heap.size rfl 27 xs (0, 0) _ hX1 Tryz.underlying27 rfl (by rw [hsx]; exact info_raw3) ?_)
  refine (HMG.out _ hN1 hI1).mono ?_
  rintro e w2 ⟨bc, r, ks, an, at_, ak, ac, ln, cn, lt, ct, ck, lc, cc, mu, bl, en, rfl, hK, hbc, hr, hks, hb2⟩
  have hbw2 := below_step hbw1 hb2
  have hwg := hbw2.size
  clear hX1 hb2 hI1 HMG hbw1 hN1
  go_upto_region 3 with (fail)
  have hG3 : (w2.alloc (.cells #[.int .i64 (bc : Int), .slice an ln cn, .slice at_ lt ct, .slice ak ks.length ck, .int .i64 (r : Int), .bool mu, .slice ac lc cc, .int .i64 bl, .int .i64 en] 41)).heap[w2.heap.size]? = some (.cells #[.int .i64 (bc : Int), .slice an ln cn, .slice at_ lt ct, .slice ak ks.length ck, .int .i64 (r : Int), .bool mu, .slice ac lc cc, .int .i64 bl, .int .i64 en] 41 (0, 0)) := World.alloc_heap_new _ _
  have hb23 := below_alloc (Below.refl _ w2) (.cells #[.int .i64 (bc : Int), .slice an ln cn, .slice at_ lt ct, .slice ak ks.length ck, .int .i64 (r : Int), .bool mu, .slice ac lc cc, .int .i64 bl, .int .i64 en] 41)
  have hK3 := hK.below hb23
  have hbw3 := below_step hbw2 hb23
  have hN3 := hb23.size
  have hs3 : (w2.alloc (.cells #[.int .i64 (bc : Int), .slice an ln cn, .slice at_ lt ct, .slice ak ks.length ck, .int .i64 (r : Int), .bool mu, .slice ac lc cc, .int .i64 bl, .int .i64 en] 41)).heap.size = w2.heap.size + 1 := by simp
  generalize (w2.alloc (.cells #[.int .i64 (bc : Int), .slice an ln cn, .slice at_ lt ct, .slice ak ks.length ck, .int .i64 (r : Int), .bool mu, .slice ac lc cc, .int .i64 bl, .int .i64 en] 41)) = w3 at *
  generalize w2.heap.size = gb at *
  have HIG : (Tryz.prog.info? 41).map (·.size) = some (#[.int .i64 (bc : Int), .slice an ln cn, .slice at_ lt ct, .slice ak ks.length ck, .int .i64 (r : Int), .bool mu, .slice ac lc cc, .int .i64 bl, .int .i64 en] : Array Value).size := info_game9
  clear  hK hb23 hbw2
  have hlb := PRs.mono (RowIn.up hl hN hbw3) (Nat.le_trans hN hwg)
  have hn12 : (12 : Nat) ≤ 100 := by omega
  go_wp2_with (with_reducible refine wpList_load_row rfl 41 (.tmp 8) rfl gb rfl 41 _ (0, 0) _ hG3 Tryz.underlying41 rfl HIG ?_)
  refine (many_any bc r ks (.slice an ln cn) (.slice at_ lt ct) (.bool mu) (.slice ac lc cc) (.int .i64 bl) (.int .i64 en) ak ck gb l al cl 12 w3 hbc hr hks (by omega) hN3 hK3 hlb).mono ?_
  rintro e w4 ⟨L, ga, ca, rfl, hLM, hLO, hLA, hLG, hb34⟩
  have hbw4 := below_step hbw3 hb34
  have hL12 : L.length ≤ 12 := by
    have := congrArg List.length hLM
    simp at this; omega
  clear hLM hbw3 hb34 hG3 hK3 hlb HIG
  have hLK := hLA.ok (fun x hx => (hLG x hx).fit)
  have hLP := hLO.at0
  have hsmall : ∀ q ∈ L.map (·.p), PosSmall q ∧ PosFit q := by
    intro q hq
    obtain ⟨x, hx, rfl⟩ := List.mem_map.1 hq
    exact ⟨(hLG x hx).small, (hLG x hx).fit⟩
  go_wp2_with fail
  refine (sort_any L ga 0 ca w4.heap.size w4 (Nat.le_refl _) (by omega) hLK (fun x hx => (hLG x hx).small) hLP).mono ?_
  rintro e w5 ⟨R, gs, cs, rfl, hRS, hRO, hRA, hb45⟩
  have hbw5 := below_step hbw4 hb45
  have hLK5 := fun x hx => (hLK x hx).up (Nat.le_refl _) hb45
  have hLP5 := hLP.up hb45
  have hRg : ∀ x ∈ R, PosSmall x.p ∧ PosFit x.p := by
    intro x hx
    have : x.p ∈ R.map (·.p) := List.mem_map.2 ⟨x, hx, rfl⟩
    rw [hRS, sortS_mem] at this
    exact hsmall _ this
  have hRK5 : ∀ x ∈ R, AOk w5.heap.size w5 x := fun x hx => ⟨(hRg x hx).2, (hRA x hx).in_⟩
  have hRP5 := hRO.at0
  have hR12 : R.length ≤ 12 := by
    have h1 := congrArg List.length hRS
    have h2 := sortS_len (L.map (·.p))
    simp at h1 h2; omega
  have hs45 := hb45.size
  have HLP5 := Lib.hid hLP5
  have HRP5 := Lib.hid hRP5
  have HLK5 := Lib.hid hLK5
  have HRK5 := Lib.hid hRK5
  have HRS := Lib.hid hRS
  have HRG := Lib.hid hRg
  have HSM := Lib.hid hsmall
  have HBW5 := Lib.hid hbw5
  clear hLO hLA hLG hLK hLP hb45 hbw4 hLK5 hLP5 hRg hRK5 hRP5 hRS hRO hRA hsmall hbw5
  have hoe := ps_empty w5
  have hi0 : IntKind.i64.wrap (n : Int) = (n : Int) := IntWalk.i64_in _ (by omega)
  go_upto_block 0 with (fail)
  go_wp2_with fail
  go_loopw [11, 12] (fun v i wr => ∃ (k : Nat) (T : List PosA) (g cap : Nat), k ≤ L.length ∧ T.length = k ∧ v = .slice (some ⟨g, 0, none⟩) k cap ∧ i = .int .i64 k ∧ Hid (∀ i, i < k → T[i]? = L[(i + n) % L.length]?) ∧ OwnPs w5.heap.size wr (.slice (some ⟨g, 0, none⟩) k cap) T ∧ Below w5.heap.size w5 wr) (fun _ i _ => L.length - (intOf i).toNat)
  case atStart => exact ⟨0, [], w5.heap.size, 0, Nat.zero_le _, rfl, rfl, rfl, Lib.hid (fun i h => absurd h (Nat.not_lt_zero _)), hoe, below_alloc (Below.refl _ _) _⟩
  case round =>
    clear hoe
    obtain ⟨k, T, g, cap, hk, hTk, rfl, rfl, HT, hO, hb⟩ := hrel
    generalize wr = w6 at *
    have hs56 := hb.size
    by_cases hlt : k < L.length
    · skip
      have t1 : decide (k < L.length) = true := by simpa using hlt
      have t1' : decide ((k : Int) < (L.length : Int)) = true := by simpa using hlt
      have hid := Nat.mod_lt (k + n) (show 0 < L.length by omega)
      have e1 : ((k : Int) + (n : Int)).tmod (L.length : Int) = (((k + n) % L.length : Nat) : Int) := by
        rw [Int.tmod_eq_emod_of_nonneg (by omega), Int.natCast_emod, Int.natCast_add]
      have HTN : Hid (∀ y, L[(k + n) % L.length] = y → ∀ i, i < k + 1 → (T ++ [y])[i]? = L[(i + n) % L.length]?) := Lib.hid (by
        intro y hy i hi
        by_cases e : i < k
        · rw [List.getElem?_append_left (by omega)]; exact HT.out i e
        · obtain rfl : i = k := by omega
          rw [List.getElem?_append_right (by omega), hTk, Nat.sub_self, List.getElem?_eq_getElem hid, hy]; rfl)
      obtain ⟨y, hy⟩ : ∃ y, L[(k + n) % L.length] = y := ⟨_, rfl⟩
      have hyL : y ∈ L := by rw [← hy]; exact List.getElem_mem _
      have HTN2 := Lib.hid (HTN.out y hy)
      have hc := (HLP5.out.up hb).cells hid hy
      clear HTN hy
      generalize (k + n) % L.length = ix at *
      obtain ⟨c0, c1, c2, c3, c4⟩ := hc
      have w1 : IntKind.i64.wrap ((k : Int) + (n : Int)) = (k : Int) + (n : Int) := IntWalk.i64_in _ (by omega)
      have w2 : IntKind.i64.wrap (ix : Int) = (ix : Int) := IntWalk.i64_in _ (by omega)
      have n1 : ((L.length : Int) == 0) = false := by rw [beq_eq_false_iff_ne]; omega
      have n2 : ¬ ((L.length : Int) = 0) := by omega
      have n3 : ¬ L = [] := fun h => by rw [h] at hlt; exact absurd hlt (Nat.not_lt_zero _)
      have t2 : (0 : Int) ≤ (ix : Int) := by omega
      have t3 : (ix : Int) < (L.length : Int) := by omega
      have hOk : OwnPs w5.heap.size w6 (.slice (some ⟨g, 0, none⟩) T.length cap) T := by rw [hTk]; exact hO
      have hrA : (w6.alloc (.cells #[.slice y.a y.p.cells.length y.c, .slice y.a0 y.p.h0.length y.c0, .slice y.a1 y.p.h1.length y.c1, .int .i64 y.p.rights, .int .i64 y.p.side] 32)).ownsRow w5.heap.size 32 5 (.slice (some ⟨g, 0, none⟩) k cap) k (T.flatMap PosA.enc) := by
        have := hOk.up (below_alloc (Below.refl _ w6) (.cells #[.slice y.a y.p.cells.length y.c, .slice y.a0 y.p.h0.length y.c0, .slice y.a1 y.p.h1.length y.c1, .int .i64 y.p.rights, .int .i64 y.p.side] 32))
        unfold OwnPs at this
        rw [hTk] at this
        exact this
      have HRA := Lib.hid hrA
      have HOK := Lib.hid hOk
      have HB := Lib.hid hb
      have HTK := Lib.hid hTk
      have hk13 : k < 13 := by omega
      clear hrA hOk hb hO hTk
      go_wp2_with (at_builtin; go_loud (refine wpList_pushG rfl 43 32 (.agg #[.slice none 0 0, .slice none 0 0, .slice none 0 0, .int .i64 0, .int .i64 0]) 5 88 Tryz.underlying43 info_pos6 rfl (by decide) (by decide) (.tmp 32) (.tmp 43) rfl w5.heap.size (.slice (some ⟨g, 0, none⟩) k cap) k (T.flatMap PosA.enc) rfl HRA.out (by omega) (by simp; omega) w6.heap.size 1 [.slice y.a y.p.cells.length y.c, .slice y.a0 y.p.h0.length y.c0, .slice y.a1 y.p.h1.length y.c1, .int .i64 y.p.rights, .int .i64 y.p.side] rfl rfl (World.alloc_heap_new _ _) (by simp [Value.oneCell']) ?_; intro g7 cap7 w7 hown7 hg7))
      rw [← HTK.out] at hown7 hg7
      obtain ⟨q1, q2⟩ := addRow (y := y) hs56 HOK.out hg7 hown7
      rw [HTK.out] at q1
      have Q1 := Lib.hid q1
      have Q2 := Lib.hid (HB.out.trans q2)
      clear hown7 hg7 q1 q2 c0 c1 c2 c3 c4
      go_roundw
      case rel => exact ⟨k + 1, T ++ [y], g7, cap7, by omega, by rw [List.length_append, HTK.out]; rfl, rfl, by go_num, HTN2, Q1.out, Q2.out⟩
      case measure => simp [intOf]; omega
    · obtain rfl : k = L.length := by omega
      have t1 : decide (L.length < L.length) = false := by simp
      have t1' : decide ((L.length : Int) < (L.length : Int)) = false := by simp
      have HTM := Lib.hid (fun x => turn_mem (n := n) hTk (by rw [hTk]; exact HT.out) x)
      have hO9 : OwnPs w5.heap.size w6 (.slice (some ⟨g, 0, none⟩) T.length cap) T := by rw [hTk]; exact hO
      have hTP := hO9.at0
      have hbE := (below_alloc (Below.refl _ w6) (.cells #[] 32))
      have hTP7 := hTP.up hbE
      have HTP7 := Lib.hid hTP7
      have HTP6 := Lib.hid hTP
      have HB6 := Lib.hid hb
      have hTlen : T.length ≤ 12 := by omega
      have hglt : g < w6.heap.size := (World.ownsRow.lt hO9 g rfl).2
      have HTK := Lib.hid hTk
      clear hTP hTP7 hbE hO hO9 HT hb hTk
      go_upto_region 11 with (at_builtin; go_loud (refine wpList_pushPs rfl (.tmp 45) (.tmp 46) rfl w6.heap.size w6.heap.size 0 [] rfl (ps_empty w6) (by simp) g T cap (by rw [HTK.out]; rfl) (by simp; omega) HTP7.out ?_; intro g7 cap7 w7 hown7 hg7))
      have hb67 : Below w6.heap.size w6 w7 := (below_alloc (Below.refl _ w6) (.cells #[] 32)).trans ((Alters.of_grown hg7).below (by rw [World.size_alloc]; omega) (fun k (hk : some k = some w6.heap.size) => by have := Option.some.inj hk; omega))
      have hb57 := HB6.out.trans (hb67.mono hs56)
      have HRP7 := Lib.hid (HRP5.out.up hb57)
      rw [List.nil_append] at hown7
      have HO7 := Lib.hid hown7
      have HB67 := Lib.hid hb67
      have HB57 := Lib.hid hb57
      have hs67 := hb67.size
      clear hown7 hg7 hb67 hb57
      go_upto_block 2 with (at_builtin; go_loud (refine wpList_pushPs rfl (.tmp 48) (.tmp 49) rfl w6.heap.size g7 cap7 T rfl HO7.out hs67 gs R cs rfl (by omega) HRP7.out ?_; intro g8 cap8 w8 hown8 hg8))
      have hb78 : Below w6.heap.size w7 w8 := (Alters.of_grown hg8).below hs67 (fun k (hk : some k = some g7) => by have h1 := (World.ownsRow.lt HO7.out g7 rfl).1; have h2 := Option.some.inj hk; omega)
      have hb68 := HB67.out.trans hb78
      have hb58 := HB6.out.trans (hb68.mono hs56)
      have hs58 := hb58.size
      have HL8 := Lib.hid (HLP5.out.up hb58)
      have HR8 := Lib.hid (HRP5.out.up hb58)
      have HT8 := Lib.hid (HTP6.out.up hb68)
      have HX8 := Lib.hid hown8.at0
      have KL : Hid (∀ x ∈ L, AOk w8.heap.size w8 x) := Lib.hid (fun x hx => ((HLK5.out x hx).up hs45 hb58).mono (Nat.le_trans hs45 hs58))
      have KR : Hid (∀ x ∈ R, AOk w8.heap.size w8 x) := Lib.hid (fun x hx => ((HRK5.out x hx).up (Nat.le_refl _) hb58).mono hs58)
      have HSR := Lib.hid (show Srt (R.map (·.p)) by rw [HRS.out]; exact sortS_srt _)
      have HMR := Lib.hid (show ∀ p, p ∈ R.map (·.p) ↔ p ∈ L.map (·.p) by intro p; rw [HRS.out]; exact sortS_mem _ p)
      have HMT := Lib.hid (show ∀ p, p ∈ T.map (·.p) ↔ p ∈ L.map (·.p) by
        intro p
        simp only [List.mem_map]
        exact ⟨fun ⟨x, hx, e⟩ => ⟨x, (HTM.out x).1 hx, e⟩, fun ⟨x, hx, e⟩ => ⟨x, (HTM.out x).2 hx, e⟩⟩)
      have SL : Hid (∀ x ∈ L, PosSmall x.p ∧ PosFit x.p) := Lib.hid (fun x hx => HSM.out _ (List.mem_map.2 ⟨x, hx, rfl⟩))
      have S1 := Lib.hid (fun W (h : Below w8.heap.size w8 W) => sorted_lists R R gs cs gs cs w8 W h HR8.out HR8.out KR.out KR.out (by omega) HRG.out HSR.out (fun p => Iff.rfl))
      have S2 := Lib.hid (fun W (h : Below w8.heap.size w8 W) => sorted_lists T R g cap gs cs w8 W h HT8.out HR8.out (fun x hx => KL.out x ((HTM.out x).1 hx)) KR.out (by omega) (fun x hx => SL.out x ((HTM.out x).1 hx)) HSR.out (fun p => (HMR.out p).trans (HMT.out p).symm))
      have S3 := Lib.hid (fun W (h : Below w8.heap.size w8 W) => sorted_lists (T ++ R) R g8 cap8 gs cs w8 W h HX8.out HR8.out (fun x hx => by
          rcases List.mem_append.1 hx with hx | hx
          · exact KL.out x ((HTM.out x).1 hx)
          · exact KR.out x hx) KR.out (by rw [List.length_append]; omega) (fun x hx => by
          rcases List.mem_append.1 hx with hx | hx
          · exact SL.out x ((HTM.out x).1 hx)
          · exact HRG.out x hx) HSR.out (fun p => by rw [List.map_append, List.mem_append, HMT.out, HMR.out]; exact ⟨.inl, fun h => h.elim id id⟩))
      rw [HTK.out] at S2
      rw [List.length_append] at S3
      have HB8 := Lib.hid (HBW5.out.trans (hb58.mono HBW5.out.size))
      clear hown8 hg8 hb78 hb68 hb58 HTP6 HTP7 HRP7 HO7 HB67 HB57 HB6
      go_wp2_with fail
      go_loopw [14] (fun i wr => ∃ j : Nat, i = .int .i64 ((j : Int) + 1) ∧ Hid (Below w8.heap.size w8 wr)) (fun i _ => R.length - (intOf i).toNat)
      case atStart => exact ⟨0, by simp, Lib.hid (Below.refl _ _)⟩
      case round =>
        obtain ⟨j, rfl, hb⟩ := hrel
        generalize wr = w9 at *
        by_cases hlt2 : j + 1 < R.length
        · skip
          have t2 : decide ((j : Int) + 1 < (R.length : Int)) = true := by simp; omega
          obtain ⟨x, hx⟩ : ∃ x, R[j] = x := ⟨_, rfl⟩
          obtain ⟨y, hy⟩ : ∃ y, R[j + 1] = y := ⟨_, rfl⟩
          have hT := TwoB.of2 (HR8.out.up hb.out) (HR8.out.up hb.out) (show j < R.length by omega) hlt2 hx hy
          rw [Nat.zero_add, Nat.zero_add] at hT
          have hxo := (KR.out x (by rw [← hx]; exact List.getElem_mem _)).up (Nat.le_refl _) hb.out
          have hyo := (KR.out y (by rw [← hy]; exact List.getElem_mem _)).up (Nat.le_refl _) hb.out
          have hsw := hb.out.size
          have hcm : cmpP x.p y.p = -1 := by
            have := srt_lt HSR.out (i := j) (j := j + 1) (by omega) (by simpa using hlt2)
            simpa [hx, hy] using this
          have HCM := Lib.hid (fun W (h : Below w9.heap.size w9 W) => compare_any x.p y.p x.a x.a0 x.a1 y.a y.a0 y.a1 x.c x.c0 x.c1 y.c y.c0 y.c1 w8.heap.size W hxo.fit (Nat.le_trans hsw h.size) (hxo.lies.up hsw h) (hyo.lies.up hsw h))
          rw [hcm] at HCM
          unfold PosV at HCM
          have w1 : IntKind.i64.wrap ((j : Int) + 1 - 1) = (j : Int) := by rw [Int.add_sub_cancel]; exact IntWalk.i64_in _ (by omega)
          have w2 : IntKind.i64.wrap (j : Int) = (j : Int) := IntWalk.i64_in _ (by omega)
          have w3' : IntKind.i64.wrap ((j : Int) + 1 + 1) = (j : Int) + 1 + 1 := IntWalk.i64_in _ (by omega)
          have t4 : (0 : Int) ≤ (j : Int) + 1 := by omega
          have t5 : (j : Int) < (R.length : Int) := by omega
          have t6 : (j : Int) + 1 < (R.length : Int) := by omega
          clear hxo hyo hsw hx hy hcm
          go_upto_region 15 with (fail)
          refine wp_region_quiet (C := TwoB w9 gs (j * 5) gs ((j + 1) * 5) x y) (by as_aux_lemma => kernel_rfl) (by as_aux_lemma => kernel_rfl) (hT.up (Below.refl _ _).drew) ?_
          dsimp only
          refine wpQuiet_val (v := ?_) (by rfl) ?_ ?_
          rotate_left
          · ((intro W hW; (try cases hW); go_simp); try with_reducible rfl)
          (try simp only [Act.put, List.setIfInBounds_toArray, List.set_cons_zero, List.set_cons_succ])
          refine wpQuiet_val (v := ?_) (by rfl) ?_ ?_
          rotate_left
          · ((intro W hW; (try cases hW); go_simp); try with_reducible rfl)
          (try simp only [Act.put, List.setIfInBounds_toArray, List.set_cons_zero, List.set_cons_succ])
          refine wpQuiet_val (v := ?_) (by rfl) ?_ ?_
          rotate_left
          · ((intro W hW; (try cases hW); go_simp); try with_reducible rfl)
          (try simp only [Act.put, List.setIfInBounds_toArray, List.set_cons_zero, List.set_cons_succ])
          refine wpQuiet_val (v := ?_) (by rfl) ?_ ?_
          rotate_left
          · ((intro W hW; (try cases hW); go_simp); try with_reducible rfl)
          (try simp only [Act.put, List.setIfInBounds_toArray, List.set_cons_zero, List.set_cons_succ])
          refine wpQuiet_val (v := ?_) (by rfl) ?_ ?_
          rotate_left
          · ((intro W hW; (try cases hW); go_simp); try with_reducible rfl)
          (try simp only [Act.put, List.setIfInBounds_toArray, List.set_cons_zero, List.set_cons_succ])
          refine wpQuiet_val (v := ?_) (by rfl) ?_ ?_
          rotate_left
          · ((intro W hW; (try cases hW); go_simp); try with_reducible rfl)
          (try simp only [Act.put, List.setIfInBounds_toArray, List.set_cons_zero, List.set_cons_succ])
          refine wpQuiet_val (v := ?_) (by rfl) ?_ ?_
          rotate_left
          · ((intro W hW; (try cases hW); go_simp); try with_reducible rfl)
          (try simp only [Act.put, List.setIfInBounds_toArray, List.set_cons_zero, List.set_cons_succ])
          refine wpQuiet_val (v := ?_) (by rfl) ?_ ?_
          rotate_left
          · ((intro W hW; (try cases hW); go_simp); try with_reducible rfl)
          (try simp only [Act.put, List.setIfInBounds_toArray, List.set_cons_zero, List.set_cons_succ])
          refine wpQuiet_val (v := ?_) (by rfl) ?_ ?_
          rotate_left
          · ((intro W hW; (try cases hW); go_simp); try with_reducible rfl)
          (try simp only [Act.put, List.setIfInBounds_toArray, List.set_cons_zero, List.set_cons_succ])
          refine wpQuiet_val (v := .int .i64 (-1)) (by rfl) (fun W hW => ?_) ?_
          · go_simp
            exact (HCM.out W hW.b).mono fun e w' ⟨he, hb⟩ => ⟨he, hW.up hb⟩
          (try simp only [Act.put, List.setIfInBounds_toArray, List.set_cons_zero, List.set_cons_succ])
          refine wpQuiet_val (v := ?_) (by rfl) ?_ ?_
          rotate_left
          · ((intro W hW; (try cases hW); go_simp); try with_reducible rfl)
          (try simp only [Act.put, List.setIfInBounds_toArray, List.set_cons_zero, List.set_cons_succ])
          refine wpQuiet_nil (fun W hW => ?_)
          have HBN := Lib.hid (below_step hb.out hW.b)
          clear hT hW HCM hb
          go_wp2
          go_roundw
          case rel => exact ⟨j + 1, by push_cast; rfl, HBN⟩
          case measure => simp [intOf]; omega
        · have t2 : decide ((j : Int) + 1 < (R.length : Int)) = false := by simp; omega
          clear hlt2
          go_wp2_with fail
          clear t2
          go_loopw [15] (fun i wr => ∃ k : Nat, k ≤ R.length ∧ i = .int .i64 k ∧ Hid (Below w8.heap.size w8 wr)) (fun i _ => R.length - (intOf i).toNat)
          case atStart => exact ⟨0, Nat.zero_le _, rfl, hb⟩
          case round =>
            clear hb
            obtain ⟨k, hk2, rfl, hb⟩ := hrel
            generalize wr = w10 at *
            by_cases hlt3 : k < R.length
            · skip
              have t2 : decide (k < R.length) = true := by simpa using hlt3
              have t2' : decide ((k : Int) < (R.length : Int)) = true := by simpa using hlt3
              obtain ⟨y, hy⟩ : ∃ y, R[k] = y := ⟨_, rfl⟩
              obtain ⟨c0, c1, c2, c3, c4⟩ := (HR8.out.up hb.out).cells hlt3 hy
              have hyR : y ∈ R := by rw [← hy]; exact List.getElem_mem _
              have hsw := hb.out.size
              have HH := has_any L y (some ⟨ga, 0, none⟩) ca w8.heap.size w10 hsw (by omega) (fun x hx => (KL.out x hx).up (Nat.le_refl _) hb.out) ((KR.out y hyR).up (Nat.le_refl _) hb.out) (.inr ⟨ga, 0, rfl, HL8.out.up hb.out⟩)
              rw [show decide (y.p ∈ L.map (·.p)) = true by rw [decide_eq_true_eq, ← HMR.out]; exact List.mem_map.2 ⟨y, hyR, rfl⟩] at HH
              unfold PosA.val PosV at HH
              have HH2 := Lib.hid HH
              have t4 : (0 : Int) ≤ (k : Int) := by omega
              have t5 : (k : Int) < (R.length : Int) := by omega
              clear hy hyR HH hsw
              go_wp2_with fail
              refine HH2.out.mono ?_
              rintro e w11 ⟨rfl, hb1⟩
              have HBN := Lib.hid (below_step hb.out hb1)
              clear c0 c1 c2 c3 c4 hb1 hb
              go_wp2_with fail
              go_roundw
              case rel => exact ⟨k + 1, by omega, by go_num, HBN⟩
              case measure => simp [intOf]; omega
            · have t2 : decide (k < R.length) = false := by simpa using hlt3
              have t2' : decide ((k : Int) < (R.length : Int)) = false := by simpa using hlt3
              clear hlt3
              go_wp2_with fail
              clear t2 t2'
              go_loopw [16] (fun i wr => ∃ k : Nat, k ≤ L.length ∧ i = .int .i64 k ∧ Hid (Below w8.heap.size w8 wr)) (fun i _ => L.length - (intOf i).toNat)
              case atStart => exact ⟨0, Nat.zero_le _, rfl, hb⟩
              case round =>
                clear hb hk2
                obtain ⟨k, hk2, rfl, hb⟩ := hrel
                generalize wr = w10 at *
                by_cases hlt3 : k < L.length
                · skip
                  have t2 : decide (k < L.length) = true := by simpa using hlt3
                  have t2' : decide ((k : Int) < (L.length : Int)) = true := by simpa using hlt3
                  obtain ⟨y, hy⟩ : ∃ y, L[k] = y := ⟨_, rfl⟩
                  obtain ⟨c0, c1, c2, c3, c4⟩ := (HL8.out.up hb.out).cells hlt3 hy
                  have hyR : y ∈ L := by rw [← hy]; exact List.getElem_mem _
                  have hsw := hb.out.size
                  have HH := has_any R y (some ⟨gs, 0, none⟩) cs w8.heap.size w10 hsw (by omega) (fun x hx => (KR.out x hx).up (Nat.le_refl _) hb.out) ((KL.out y hyR).up (Nat.le_refl _) hb.out) (.inr ⟨gs, 0, rfl, HR8.out.up hb.out⟩)
                  rw [show decide (y.p ∈ R.map (·.p)) = true by rw [decide_eq_true_eq, HMR.out]; exact List.mem_map.2 ⟨y, hyR, rfl⟩] at HH
                  unfold PosA.val PosV at HH
                  have HH2 := Lib.hid HH
                  have t4 : (0 : Int) ≤ (k : Int) := by omega
                  have t5 : (k : Int) < (L.length : Int) := by omega
                  clear hy hyR HH hsw
                  go_wp2_with fail
                  refine HH2.out.mono ?_
                  rintro e w11 ⟨rfl, hb1⟩
                  have HBN := Lib.hid (below_step hb.out hb1)
                  clear c0 c1 c2 c3 c4 hb1 hb
                  go_wp2_with fail
                  go_roundw
                  case rel => exact ⟨k + 1, by omega, by go_num, HBN⟩
                  case measure => simp [intOf]; omega
                · have t2 : decide (k < L.length) = false := by simpa using hlt3
                  have t2' : decide ((k : Int) < (L.length : Int)) = false := by simpa using hlt3
                  clear hlt3
                  go_wp2_with fail
                  refine (S1.out _ hb.out).mono ?_
                  rintro e v1 ⟨R1, g1, c1, rfl, hb1, HL1⟩
                  have h1 := below_step hb.out hb1
                  go_wp2_with fail
                  refine HL1.out.mono ?_
                  rintro e v2 ⟨rfl, hb2⟩
                  have h2 := below_step h1 hb2
                  go_wp2_with fail
                  refine (S2.out _ h2).mono ?_
                  rintro e v3 ⟨R2, g2, c2, rfl, hb3, HL2⟩
                  have h3 := below_step h2 hb3
                  go_wp2_with fail
                  refine HL2.out.mono ?_
                  rintro e v4 ⟨rfl, hb4⟩
                  have h4 := below_step h3 hb4
                  go_wp2_with fail
                  refine (S3.out _ h4).mono ?_
                  rintro e v5 ⟨R3, g3, c3, rfl, hb5, HL3⟩
                  have h5 := below_step h4 hb5
                  go_wp2_with fail
                  refine HL3.out.mono ?_
                  rintro e v6 ⟨rfl, hb6⟩
                  have HBE := Lib.hid (below_step HB8.out (below_step h5 hb6))
                  clear hb hb1 hb2 hb3 hb4 hb5 hb6 h1 h2 h3 h4 h5
                  go_wp2
                  go_ret
                  exact ⟨rfl, HBE.out⟩
end Go.Proofs.YtphhkfelpckilaaGreatDoor
