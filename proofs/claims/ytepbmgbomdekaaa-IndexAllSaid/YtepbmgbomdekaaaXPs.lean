/-
  Lists of positions in memory: an append; of the reference: Find, Sorted.
-/
import Derived.Test.YtepbmgbomdekaaaXSanW
import Derived.Test.YtepbmgbomdekaaaXPush
import Derived.Test.YtepbmgbomdekaaaDRefC
namespace Go.Proofs.Ytepbmgbomdekaaa
open Go Go.RowKit Go.Lib Go.Sort
attribute [local irreducible] Go.wpQuiet

/-- A list of positions lies there, or there is none. -/
def PsIn (W : World) (a : Option Addr) (L : List PosA) : Prop := L = [] ∨ ∃ b off, a = some ⟨b, off, none⟩ ∧ PsAt W b off L
theorem PsIn.up {W W' : World} {a : Option Addr} {L : List PosA} (h : PsIn W a L) (hb : Below W.heap.size W W') : PsIn W' a L := by
  rcases h with h | ⟨b, off, e, h⟩
  · exact .inl h
  · exact .inr ⟨b, off, e, h.up hb⟩
theorem OwnPs.in_ {n : Nat} {W : World} {g cap : Nat} {L : List PosA} (h : OwnPs n W (.slice (some ⟨g, 0, none⟩) L.length cap) L) : PsAt W g 0 L := fun i c hi hc => by rw [Nat.zero_add]; exact h.cell hi hc
theorem TwoB.of2 {w : World} {g off g2 off2 : Nat} {L M : List PosA} {x y : PosA} {h k : Nat} (hp : PsAt w g off L) (hq : PsAt w g2 off2 M) (hh : h < L.length) (hk : k < M.length) (hx : L[h] = x) (hy : M[k] = y) : TwoB w g (off + h * 5) g2 (off2 + k * 5) x y w := by
  have cx := fun c (hc : c < 5) => hp h c hh hc
  have cy := fun c (hc : c < 5) => hq k c hk hc
  rw [hx] at cx
  rw [hy] at cy
  exact ⟨Below.refl _ _, cx 0 (by omega), cx 1 (by omega), cx 2 (by omega), cx 3 (by omega), cx 4 (by omega), cy 0 (by omega), cy 1 (by omega), cy 2 (by omega), cy 3 (by omega), cy 4 (by omega)⟩

theorem ps_one {W : World} {g : Nat} {y : PosA} (h : W.heap[g]? = some (.cells y.enc.toArray 27 (0, 0))) : PsAt W g 0 [y] := by
  intro i c hi hc
  obtain rfl : i = 0 := by simpa using hi
  have hlt : c < y.enc.toArray.size := by simpa [PosA.enc_len] using hc
  rw [Nat.zero_mul, Nat.zero_add, Nat.zero_add, bx_cell h c (Array.getElem?_eq_getElem hlt)]
  simp
theorem addRow {h : Nat} {W W7 : World} {v v' : Value} {L : List PosA} {y : PosA} (hh : h ≤ W.heap.size) (hrow : OwnPs h W v L)
    (hg : (W.alloc (.cells y.enc.toArray 27)).grownBy W7 v.ownBlock) (hr7 : W7.ownsRow h 27 5 v' (L.length + 1) (L.flatMap PosA.enc ++ y.enc)) : OwnPs h W7 v' (L ++ [y]) ∧ Below h W W7 := by
  have hA : Alters (fun b => some b = v.ownBlock) W W7 := (Alters.of_below (below_alloc (Below.refl _ W) _)).trans (Alters.of_grown hg)
  refine ⟨?_, hA.below hh (fun k hk => (World.ownsRow.lt hrow k hk.symm).1)⟩
  unfold OwnPs
  rw [List.length_append, List.flatMap_append]
  simpa using hr7
/-- Whatever is the position lies from i on and before j. -/
def Betw (L : List PosA) (y : PosS) (i j : Nat) : Prop := ∀ t (h : t < L.length), (L[t]).p = y → i ≤ t ∧ t < j
theorem betw_lo {L : List PosA} {y : PosS} {i j h : Nat} (hb : Betw L y i j) (hs : Srt (L.map (·.p))) (hh : h < L.length) (hc : cmpP y (L[h]).p = 1) : Betw L y (h + 1) j := by
  intro t ht he
  refine ⟨?_, (hb t ht he).2⟩
  by_cases hlt : h < t
  · omega
  · exfalso
    by_cases e : h = t
    · subst e; rw [he, cmpP_self] at hc; omega
    · have := srt_lt hs (i := t) (j := h) (by omega) (by simpa using hh)
      have h1 : cmpP (L[t]).p (L[h]).p = -1 := by simpa using this
      rw [he] at h1; omega
theorem betw_hi {L : List PosA} {y : PosS} {i j h : Nat} (hb : Betw L y i j) (hs : Srt (L.map (·.p))) (hh : h < L.length) (hc : cmpP y (L[h]).p = -1) : Betw L y i h := by
  intro t ht he
  refine ⟨(hb t ht he).1, ?_⟩
  by_cases hlt : t < h
  · exact hlt
  · exfalso
    by_cases e : h = t
    · subst e; rw [he, cmpP_self] at hc; omega
    · have := srt_lt hs (i := h) (j := t) (by omega) (by simpa using ht)
      have h1 : cmpP (L[h]).p (L[t]).p = -1 := by simpa using this
      rw [he] at h1
      have := cmpP_flip h1
      omega
set_option maxRecDepth 100000 in
set_option maxHeartbeats 1500000 in
theorem rfind_any (L : List PosA) (y : PosA) (a : Option Addr) (cap N : Nat) (w : World) (hN : N ≤ w.heap.size) (hl : L.length ≤ 1000) (hs : Srt (L.map (·.p))) (hOK : ∀ x ∈ L, AOk N w x) (hy : AOk N w y) (hP : PsIn w a L) :
    Calls Try.prog 28 #[.slice a L.length cap, y.val] w fun e w' => e = .returned (.int .i64 (findS (L.map (·.p)) y.p)) ∧ Below w.heap.size w w' := by
  have hA : Below w.heap.size w (w.alloc (.cells y.enc.toArray 27)) := below_alloc (Below.refl _ _) _
  have hY1 := ps_one (World.alloc_heap_new w (.cells y.enc.toArray 27))
  have hN1 := Nat.le_trans hN hA.size
  have HL := Lib.hid (fun x hx => (hOK x hx).up hN hA)
  have HY := Lib.hid (hy.up hN hA)
  have HP := Lib.hid (hP.up hA)
  have HA := Lib.hid hA
  have HQ := Lib.hid hY1
  have HS := Lib.hid hs
  obtain ⟨R, hR⟩ : ∃ R, findS (L.map (·.p)) y.p = R := ⟨_, rfl⟩
  have HR := Lib.hid hR
  rw [hR]
  clear hOK hy hP hY1 hA hs hR
  unfold PosA.enc at HL HY HP HA HQ hN1
  unfold PosA.val PosV
  go_enter Try.func28, Try.ntmps28
  go_upto_region 1 with (fail)
  generalize w.alloc (.cells #[.slice y.a y.p.cells.length y.c, .slice y.a0 y.p.h0.length y.c0, .slice y.a1 y.p.h1.length y.c1, .int .i64 y.p.rights, .int .i64 y.p.side] 27) = w0 at *
  go_wp2_with fail
  go_loopw [5, 6] (fun i j wr => ∃ i' j' : Nat, i = .int .i64 i' ∧ j = .int .i64 j' ∧ i' ≤ j' ∧ j' ≤ L.length ∧ Hid (Betw L y.p i' j') ∧ Hid (Below w0.heap.size w0 wr)) (fun i j _ => (RowKit.intOf j).toNat - (RowKit.intOf i).toNat)
  case atStart => exact ⟨0, L.length, rfl, rfl, Nat.zero_le _, Nat.le_refl _, Lib.hid (fun t h _ => ⟨Nat.zero_le _, h⟩), Lib.hid (Below.refl _ _)⟩
  case round =>
    obtain ⟨i, j, rfl, rfl, hij, hjl, HB, hb⟩ := hrel
    by_cases hlt : i < j
    · have t1 : decide ((i : Int) < (j : Int)) = true := by simp; omega
      obtain ⟨h, hh⟩ : ∃ h, h = (i + j) / 2 := ⟨_, rfl⟩
      have hhl : h < L.length := by omega
      have hi3 := IntWalk.i64_in ((i : Int) + (j : Int)) (by omega)
      have he : ((i : Int) + (j : Int)).tdiv 2 = (h : Int) := by rw [Int.tdiv_eq_ediv_of_nonneg (by omega)]; omega
      have he2 : ((i : Int) + (j : Int)) / 2 = (h : Int) := by omega
      have hi4 : IntKind.i64.wrap (h : Int) = (h : Int) := IntWalk.i64_in _ (by omega)
      have hi5 : IntKind.i64.wrap ((h : Int) + 1) = (h : Int) + 1 := IntWalk.i64_in _ (by omega)
      have t3 : (0 : Int) ≤ (h : Int) := by omega
      have t4 : (h : Int) < (L.length : Int) := by omega
      obtain ⟨x, hx⟩ : ∃ x, L[h] = x := ⟨_, rfl⟩
      obtain ⟨b, off, ha, hPA⟩ := (HP.out.resolve_left (by intro h; rw [h] at hhl; simp at hhl))
      subst ha
      have hT := TwoB.of2 (hPA.up hb.out) (HQ.out.up hb.out) hhl (show 0 < [y].length by simp) hx rfl
      rw [Nat.zero_add, Nat.zero_mul] at hT
      have hxo := (HL.out x (by rw [← hx]; exact List.getElem_mem _)).up hN1 hb.out
      have hyo := HY.out.up hN1 hb.out
      have hsw := hb.out.size
      have HCM := Lib.hid (fun W (h : Below wr.heap.size wr W) => rcompare_any y x N W (hyo.up (Nat.le_trans hN1 hsw) h) (hxo.up (Nat.le_trans hN1 hsw) h) (Nat.le_trans hN1 (Nat.le_trans hsw h.size)))
      unfold PosA.val PosV at HCM
      have hlo := fun hc => betw_lo HB.out HS.out hhl (by rw [hx]; exact hc)
      have hhi := fun hc => betw_hi HB.out HS.out hhl (by rw [hx]; exact hc)
      have hfd : cmpP y.p x.p = 0 → R = (h : Int) := fun hc => by
        rw [← HR.out]
        exact findS_at HS.out (by simpa using hhl) (by simpa [hx] using ((cmpP_ok.eq0 _ _).1 hc).symm)
      have hrng := cmpP_ok.rng y.p x.p
      generalize cmpP y.p x.p = C at *
      have HLO := Lib.hid hlo
      have HHI := Lib.hid hhi
      have HFD := Lib.hid hfd
      have HHH := Lib.hid hh
      clear hx hPA hxo hyo hsw hlo hhi hfd hh
      go_upto_region 5 with (fail)
      refine wp_region_quiet (C := TwoB wr b (off + h * 5) w.heap.size 0 x y) (by kernel_rfl) (by kernel_rfl) (hT.up (Below.refl _ _).drew) ?_
      dsimp only
      iterate 5
        refine wpQuiet_val (v := ?_) (by rfl) ?_ ?_
        rotate_left
        · ((intro W hW; (try cases hW); go_simp); try with_reducible rfl)
        (try simp only [Act.put, List.setIfInBounds_toArray, List.set_cons_zero, List.set_cons_succ])
      refine wpQuiet_val (v := .int .i64 C) (by rfl) (fun W hW => ?_) ?_
      · go_simp
        exact (HCM.out W hW.b).mono fun e w' ⟨he, hb⟩ => ⟨he, hW.up hb⟩
      (try simp only [Act.put, List.setIfInBounds_toArray, List.set_cons_zero, List.set_cons_succ])
      refine wpQuiet_val (v := ?_) (by rfl) ?_ ?_
      rotate_left
      · ((intro W hW; (try cases hW); go_simp); try with_reducible rfl)
      (try simp only [Act.put, List.setIfInBounds_toArray, List.set_cons_zero, List.set_cons_succ])
      refine wpQuiet_nil (fun W hW => ?_)
      have HBN := Lib.hid (below_step hb.out hW.b)
      clear hT hW HCM hb he he2 hi3 t3 t4
      rcases hrng with rfl | rfl | rfl
      · have HBJ := Lib.hid (HHI.out rfl)
        clear HLO HHI HFD hi5 hi4
        go_wp2
        go_roundw
        case rel => exact ⟨i, h, rfl, rfl, by have := HHH.out; omega, by omega, HBJ, HBN⟩
        case measure => have := HHH.out; simp [RowKit.intOf]; omega
      · have HRF := Lib.hid (HFD.out rfl)
        clear HLO HHI HFD
        go_wp2
        go_ret
        exact ⟨by rw [HRF.out]; rfl, HA.out.trans (HBN.out.mono HA.out.size)⟩
      · have HBJ := Lib.hid (HLO.out rfl)
        clear HLO HHI HFD
        go_wp2
        go_roundw
        case rel => exact ⟨h + 1, j, by go_num, rfl, by have := HHH.out; omega, hjl, HBJ, HBN⟩
        case measure => have := HHH.out; simp [RowKit.intOf]; omega
    · obtain rfl : i = j := by omega
      have t1 : decide ((i : Int) < (i : Int)) = false := by simp
      have HRF := Lib.hid (show R = -1 by
        rw [← HR.out]
        apply findS_none
        rw [List.mem_map]
        rintro ⟨x, hx, e⟩
        obtain ⟨t, ht, rfl⟩ := List.mem_iff_getElem.1 hx
        have := HB.out t ht e
        omega)
      have HBN := hb
      clear hb
      go_wp2
      go_ret
      exact ⟨by rw [HRF.out]; rfl, HA.out.trans (HBN.out.mono HA.out.size)⟩

set_option maxRecDepth 100000 in
set_option maxHeartbeats 1500000 in
theorem rsorted_any (L : List PosA) (a : Option Addr) (cap N : Nat) (w : World) (hN : N ≤ w.heap.size) (hl : L.length ≤ 1000) (hs : Srt (L.map (·.p))) (hOK : ∀ x ∈ L, AOk N w x) (hP : PsIn w a L) :
    Calls Try.prog 27 #[.slice a L.length cap] w fun e w' => e = .returned (.bool true) ∧ Below w.heap.size w w' := by
  have HL := Lib.hid hOK
  have HP := Lib.hid hP
  have HS := Lib.hid hs
  clear hOK hP hs
  go_enter Try.func27, Try.ntmps27
  go_wp2_with fail
  go_loopw [3] (fun i wr => ∃ i' : Nat, i = .int .i64 i' ∧ 1 ≤ i' ∧ i' ≤ L.length + 1 ∧ Hid (Below w.heap.size w wr)) (fun i _ => L.length + 1 - (RowKit.intOf i).toNat)
  case atStart => exact ⟨1, rfl, Nat.le_refl _, by omega, Lib.hid (Below.refl _ _)⟩
  case round =>
    obtain ⟨i, rfl, hi1, hi2, hb⟩ := hrel
    by_cases hlt : i < L.length
    · have t1 : decide ((i : Int) < (L.length : Int)) = true := by simp; omega
      obtain ⟨j, rfl⟩ : ∃ j, i = j + 1 := ⟨i - 1, by omega⟩
      have hj : j < L.length := by omega
      have i1 : ((j + 1 : Nat) : Int) - 1 = (j : Int) := by omega
      have i2 : IntKind.i64.wrap (((j + 1 : Nat) : Int) - 1) = (j : Int) := by rw [i1]; exact IntWalk.i64_in _ (by omega)
      have i3 : (j : Int) + 1 - 1 = (j : Int) := by omega
      have i4 : IntKind.i64.wrap (j : Int) = (j : Int) := IntWalk.i64_in _ (by omega)
      have i5 : IntKind.i64.wrap (((j + 1 : Nat) : Int) + 1) = ((j + 2 : Nat) : Int) := by rw [IntWalk.i64_in _ (by omega)]; omega
      have i6 : IntKind.i64.wrap ((j : Int) + 1 - 1) = (j : Int) := by rw [i3]; exact i4
      have i7 : IntKind.i64.wrap ((j : Int) + 1 + 1) = ((j + 2 : Nat) : Int) := by rw [IntWalk.i64_in _ (by omega)]; omega
      have t3 : (0 : Int) ≤ (j : Int) := by omega
      have t4 : (j : Int) < (L.length : Int) := by omega
      have t5 : (0 : Int) ≤ (j : Int) + 1 := by omega
      have t6 : (j : Int) + 1 < (L.length : Int) := by omega
      obtain ⟨x, hx⟩ : ∃ x, L[j] = x := ⟨_, rfl⟩
      obtain ⟨y, hy⟩ : ∃ y, L[j + 1] = y := ⟨_, rfl⟩
      obtain ⟨b, off, ha, hPA⟩ := (HP.out.resolve_left (by intro h; rw [h] at hlt; simp at hlt))
      subst ha
      have hT := TwoB.of2 (hPA.up hb.out) (hPA.up hb.out) hj hlt hx hy
      have hxo := (HL.out x (by rw [← hx]; exact List.getElem_mem _)).up hN hb.out
      have hyo := (HL.out y (by rw [← hy]; exact List.getElem_mem _)).up hN hb.out
      have hsw := hb.out.size
      have HCM := Lib.hid (fun W (h : Below wr.heap.size wr W) => rcompare_any x y N W (hxo.up (Nat.le_trans hN hsw) h) (hyo.up (Nat.le_trans hN hsw) h) (Nat.le_trans hN (Nat.le_trans hsw h.size)))
      have hc : cmpP x.p y.p = -1 := by
        have := srt_lt HS.out (i := j) (j := j + 1) (by omega) (by simpa using hlt)
        simpa [hx, hy] using this
      rw [hc] at HCM
      unfold PosA.val PosV at HCM
      clear hx hy hPA hxo hyo hsw hc
      go_upto_region 4 with (fail)
      refine wp_region_quiet (C := TwoB wr b (off + j * 5) b (off + (j + 1) * 5) x y) (by kernel_rfl) (by kernel_rfl) (hT.up (Below.refl _ _).drew) ?_
      dsimp only
      iterate 9
        refine wpQuiet_val (v := ?_) (by rfl) ?_ ?_
        rotate_left
        · ((intro W hW; (try cases hW); go_simp); try with_reducible rfl)
        (try simp only [Act.put, List.setIfInBounds_toArray, List.set_cons_zero, List.set_cons_succ])
      refine wpQuiet_val (v := .int .i64 (-1)) (by rfl) (fun W hW => ?_) ?_
      · go_simp
        exact (HCM.out W hW.b).mono fun e w' ⟨he, hb⟩ => ⟨he, hW.up hb⟩
      (try simp only [Act.put, List.setIfInBounds_toArray, List.set_cons_zero, List.set_cons_succ])
      refine wpQuiet_val (v := ?_) (by rfl) ?_ ?_
      rotate_left
      · ((intro W hW; (try cases hW); go_simp); try with_reducible rfl)
      (try simp only [Act.put, List.setIfInBounds_toArray, List.set_cons_zero, List.set_cons_succ])
      refine wpQuiet_nil (fun W hW => ?_)
      have HBN := Lib.hid (below_step hb.out hW.b)
      clear hT hW HCM hb i1 i2 i3 i4 t3 t4
      go_wp2
      go_roundw
      case rel => exact ⟨j + 2, by go_num, by omega, by omega, HBN⟩
      case measure => simp [RowKit.intOf]; omega
    · have t1 : decide ((i : Int) < (L.length : Int)) = false := by simp; omega
      have HBN := hb
      clear hb
      go_wp2
      go_ret
      exact ⟨rfl, HBN.out⟩
end Go.Proofs.Ytepbmgbomdekaaa
