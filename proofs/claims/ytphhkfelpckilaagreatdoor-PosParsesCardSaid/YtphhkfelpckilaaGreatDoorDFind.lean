/-
  Find of the package pos.
-/
import Derived.Test.YtphhkfelpckilaaGreatDoorDSortW
import Derived.IntWalk
namespace Go.Proofs.YtphhkfelpckilaaGreatDoor
open Go Go.RowKit Go.Lib Go.Sort

attribute [local irreducible] Go.wpQuiet
/-- Two positions in two blocks, while nothing that was there changes. -/
structure TwoB (w : World) (g oi g2 oj : Nat) (x y : PosA) (W : World) : Prop where
  b : Below w.heap.size w W
  x0 : W.cell? ⟨g, oi, none⟩ = some (.slice x.a x.p.cells.length x.c)
  x1 : W.cell? ⟨g, oi + 1, none⟩ = some (.slice x.a0 x.p.h0.length x.c0)
  x2 : W.cell? ⟨g, oi + 2, none⟩ = some (.slice x.a1 x.p.h1.length x.c1)
  x3 : W.cell? ⟨g, oi + 3, none⟩ = some (.int .i64 x.p.rights)
  x4 : W.cell? ⟨g, oi + 4, none⟩ = some (.int .i64 x.p.side)
  y0 : W.cell? ⟨g2, oj, none⟩ = some (.slice y.a y.p.cells.length y.c)
  y1 : W.cell? ⟨g2, oj + 1, none⟩ = some (.slice y.a0 y.p.h0.length y.c0)
  y2 : W.cell? ⟨g2, oj + 2, none⟩ = some (.slice y.a1 y.p.h1.length y.c1)
  y3 : W.cell? ⟨g2, oj + 3, none⟩ = some (.int .i64 y.p.rights)
  y4 : W.cell? ⟨g2, oj + 4, none⟩ = some (.int .i64 y.p.side)
theorem TwoB.up {w W W' : World} {g oi g2 oj : Nat} {x y : PosA} (h : TwoB w g oi g2 oj x y W) (hb : Below W.heap.size W W') : TwoB w g oi g2 oj x y W' :=
  ⟨below_step h.b hb, cell_keep hb h.x0, cell_keep hb h.x1, cell_keep hb h.x2, cell_keep hb h.x3, cell_keep hb h.x4, cell_keep hb h.y0, cell_keep hb h.y1, cell_keep hb h.y2, cell_keep hb h.y3, cell_keep hb h.y4⟩
theorem PsAt.up {W W' : World} {b off : Nat} {L : List PosA} (h : PsAt W b off L) (hb : Below W.heap.size W W') : PsAt W' b off L := fun i c hi hc => by
  have h1 := h i c hi hc
  have hs : ((PosA.enc L[i])[c]?) = some ((PosA.enc L[i])[c]'(by rw [PosA.enc_len]; exact hc)) := List.getElem?_eq_getElem _
  rw [hs] at h1 ⊢
  exact cell_keep hb h1
theorem TwoB.of {w : World} {g off g2 : Nat} {L : List PosA} {x y : PosA} {h : Nat} (hp : PsAt w g off L) (hh : h < L.length) (hx : L[h] = x) (hy : w.heap[g2]? = some (.cells y.enc.toArray 32 (0, 0))) : TwoB w g (off + h * 5) g2 0 x y w := by
  have cx := fun c (hc : c < 5) => hp h c hh hc
  rw [hx] at cx
  exact ⟨Below.refl _ _, cx 0 (by omega), cx 1 (by omega), cx 2 (by omega), cx 3 (by omega), cx 4 (by omega), bx_cell hy 0 rfl, bx_cell hy 1 rfl, bx_cell hy 2 rfl, bx_cell hy 3 rfl, bx_cell hy 4 rfl⟩

/-- What the search knows. -/
def Left (L : List PosA) (y : PosS) (i j : Nat) : Prop := (∀ t (h : t < L.length), t < i → cmpP (L[t]).p y = -1) ∧ (∀ t (h : t < L.length), j ≤ t → cmpP (L[t]).p y ≠ -1)
theorem Left.lo {L : List PosA} {y : PosS} {i j h : Nat} (hl : Left L y i j) (hs : Srt (L.map (·.p))) (hh : h < L.length) (hc : cmpP (L[h]).p y = -1) : Left L y (h + 1) j := by
  refine ⟨fun t ht hlt => ?_, hl.2⟩
  by_cases e : t = h
  · subst e; exact hc
  · have := srt_lt hs (i := t) (j := h) (by omega) (by simpa using hh)
    exact cmpP_trans (by simpa using this) hc
theorem Left.hi {L : List PosA} {y : PosS} {i j h : Nat} (hl : Left L y i j) (hs : Srt (L.map (·.p))) (hh : h < L.length) (hc : cmpP (L[h]).p y ≠ -1) : Left L y i h := by
  refine ⟨hl.1, fun t ht hle hlt => ?_⟩
  by_cases e : t = h
  · subst e; exact hc hlt
  · have := srt_lt hs (i := h) (j := t) (by omega) (by simpa using ht)
    exact hc (cmpP_trans (by simpa using this) hlt)
theorem Left.found {L : List PosA} {y : PosS} {i : Nat} (_hl : Left L y i i) (hs : Srt (L.map (·.p))) (hi : i < L.length) (he : cmpP (L[i]).p y = 0) : findS (L.map (·.p)) y = i :=
  findS_at hs (i := i) (by simpa using hi) (by simpa using (cmpP_ok.eq0 _ _).1 he)
theorem Left.none {L : List PosA} {y : PosS} {i : Nat} (hl : Left L y i i) (hs : Srt (L.map (·.p))) (h : ∀ hi : i < L.length, cmpP (L[i]).p y ≠ 0) : findS (L.map (·.p)) y = -1 := by
  refine findS_none (fun hm => ?_)
  obtain ⟨x, hx, rfl⟩ := List.mem_map.1 hm
  obtain ⟨t, ht, rfl⟩ := List.getElem_of_mem hx
  have h0 : cmpP (L[t]).p (L[t]).p = 0 := cmpP_self _
  have hti : i ≤ t := by
    rcases Nat.lt_or_ge t i with h' | h'
    · have := hl.1 t ht h'; omega
    · exact h'
  have hil : i < L.length := by omega
  by_cases e : i = t
  · subst e; exact h hil h0
  · have := srt_lt hs (i := i) (j := t) (by omega) (by simpa using ht)
    have h1 : cmpP (L[i]).p (L[t]).p = -1 := by simpa using this
    exact hl.2 i hil (Nat.le_refl _) h1

set_option maxRecDepth 100000 in
set_option maxHeartbeats 4000000 in
theorem bsearch_any (L : List PosA) (y : PosA) (g off cap N : Nat) (w : World) (hN : N ≤ w.heap.size) (hl : L.length ≤ 1000000000000) (hs : Srt (L.map (·.p))) (hOK : ∀ x ∈ L, AOk N w x) (hy : AOk N w y) (hP : PsAt w g off L) :
    Calls Tryz.prog 57 #[.slice (some ⟨g, off, none⟩) L.length cap, y.val, .func (.func 18) #[] #[]] w fun e w' =>
      (∃ (i : Nat) (f : Bool), e = .returned (.tuple #[.int .i64 i, .bool f]) ∧ findS (L.map (·.p)) y.p = if f = true then (i : Int) else -1) ∧ Below w.heap.size w w' := by
  have HOK := Lib.hid hOK
  have HY := Lib.hid hy
  have HP := Lib.hid hP
  have HS := Lib.hid hs
  clear hOK hy hP hs
  unfold PosA.val PosV
  go_enter Tryz.func57, Tryz.ntmps57
  go_upto_region 1 with (fail)
  have hbA : Below w.heap.size w (w.alloc (.cells #[.slice y.a y.p.cells.length y.c, .slice y.a0 y.p.h0.length y.c0, .slice y.a1 y.p.h1.length y.c1, .int .i64 y.p.rights, .int .i64 y.p.side] 32)) := below_alloc (Below.refl _ _) _
  have hblk : (w.alloc (.cells #[.slice y.a y.p.cells.length y.c, .slice y.a0 y.p.h0.length y.c0, .slice y.a1 y.p.h1.length y.c1, .int .i64 y.p.rights, .int .i64 y.p.side] 32)).heap[w.heap.size]? = some (.cells y.enc.toArray 32 (0, 0)) := World.alloc_heap_new _ _
  generalize w.alloc (.cells #[.slice y.a y.p.cells.length y.c, .slice y.a0 y.p.h0.length y.c0, .slice y.a1 y.p.h1.length y.c1, .int .i64 y.p.rights, .int .i64 y.p.side] 32) = w0 at *
  have HBA := Lib.hid hbA
  have HBK := Lib.hid hblk
  clear hbA hblk
  go_wp2
  go_loopw [9, 10] (fun i j wr => ∃ i' j' : Nat, i = .int .i64 i' ∧ j = .int .i64 j' ∧ i' ≤ j' ∧ j' ≤ L.length ∧ Hid (Left L y.p i' j') ∧ Hid (Below w0.heap.size w0 wr))
    (fun i j _ => (intOf j).toNat - (intOf i).toNat)
  case atStart => exact ⟨0, L.length, rfl, rfl, Nat.zero_le _, Nat.le_refl _, Lib.hid ⟨fun t _ h => absurd h (Nat.not_lt_zero _), fun t h h' => absurd h (Nat.not_lt_of_le h')⟩, Lib.hid (Below.refl _ _)⟩
  case round =>
    obtain ⟨i, j, rfl, rfl, hij, hjl, hleft, hb⟩ := hrel
    have HBW := Lib.hid (below_step HBA.out hb.out)
    have hsw := HBW.out.size
    by_cases hlt : i < j
    · have t1 : decide ((i : Int) < (j : Int)) = true := by simp; omega
      obtain ⟨h, hh⟩ : ∃ h, h = (i + j) / 2 := ⟨_, rfl⟩
      have hhl : h < L.length := by omega
      have hi3 := IntWalk.i64_in ((i : Int) + (j : Int)) (by omega)
      have he : ((i : Int) + (j : Int)) / 2 = (h : Int) := by omega
      have HE := Lib.hid he
      clear he
      obtain ⟨x, hx⟩ : ∃ x, L[h] = x := ⟨_, rfl⟩
      have hlo := hleft.out.lo HS.out hhl
      have hhi := hleft.out.hi HS.out hhl
      have hxo := (HOK.out x (by rw [← hx]; exact List.getElem_mem _)).up hN HBW.out
      have hyo := HY.out.up hN HBW.out
      have hT := TwoB.of (HP.out.up HBW.out) hhl hx ((hb.out.block _ (bx_lt HBK.out)).trans HBK.out)
      rw [hx] at hlo hhi
      have HCM := Lib.hid (fun W (h : Below wr.heap.size wr W) => compare_any x.p y.p x.a x.a0 x.a1 y.a y.a0 y.a1 x.c x.c0 x.c1 y.c y.c0 y.c1 N W hxo.fit (Nat.le_trans hN (Nat.le_trans hsw h.size)) (hxo.up (Nat.le_trans hN hsw) h).lies (hyo.up (Nat.le_trans hN hsw) h).lies)
      have HH := Lib.hid hh
      have HLO := Lib.hid hlo
      have HHI := Lib.hid hhi
      have hr := cmpP_ok.rng x.p y.p
      unfold PosV at HCM
      generalize cmpP x.p y.p = z at *
      have HR := Lib.hid hr
      clear hlo hhi hxo hyo hx hr hleft
      go_upto_region 5 with (fail)
      rw [HE.out]
      clear hi3 HE hh
      have hh0 : h < L.length := hhl
      refine wp_region_quiet (C := TwoB wr g (off + h * 5) w.heap.size 0 x y) (by kernel_rfl) (by kernel_rfl) (hT.up (Below.refl _ _).drew) ?_
      dsimp only
      iterate 6
        refine wpQuiet_val (v := ?_) (by rfl) ?_ ?_
        rotate_left
        · ((intro W hW; (try cases hW); go_simp); try with_reducible rfl)
        (try simp only [Act.put, List.setIfInBounds_toArray, List.set_cons_zero, List.set_cons_succ])
      refine wpQuiet_val (v := .int .i64 z) (by rfl) (fun W hW => ?_) ?_
      · go_simp
        exact (HCM.out W hW.b).mono fun e w' ⟨he, hb⟩ => ⟨he, hW.up hb⟩
      (try simp only [Act.put, List.setIfInBounds_toArray, List.set_cons_zero, List.set_cons_succ])
      refine wpQuiet_val (v := ?_) (by rfl) ?_ ?_
      rotate_left
      · ((intro W hW; (try cases hW); go_simp); try with_reducible rfl)
      (try simp only [Act.put, List.setIfInBounds_toArray, List.set_cons_zero, List.set_cons_succ])
      refine wpQuiet_nil (fun W hW => ?_)
      have HBN := Lib.hid (below_step hb.out hW.b)
      have hi6 := IntWalk.i64_in ((h : Int) + 1) (by omega)
      clear hT hW HCM hb hsw HBW
      by_cases hz : z = -1
      · have t3 : decide (z < 0) = true := by rw [hz]; rfl
        have HL := Lib.hid (HLO.out hz)
        rw [t3]
        clear t3 hz HLO HHI HR
        go_wp2
        go_roundw
        case rel => exact ⟨h + 1, j, by simp, rfl, by have := HH.out; omega, hjl, HL, HBN⟩
        case measure => have := HH.out; simp [intOf]; omega
      · have t3 : decide (z < 0) = false := by have := HR.out; simp; omega
        have HL := Lib.hid (HHI.out hz)
        rw [t3]
        clear t3 hz HLO HHI HR
        go_wp2
        go_roundw
        case rel => exact ⟨i, h, rfl, rfl, by have := HH.out; omega, by have := HH.out; omega, HL, HBN⟩
        case measure => have := HH.out; simp [intOf]; omega
    · obtain rfl : i = j := by omega
      have t1 : decide ((i : Int) < (i : Int)) = false := by simp
      by_cases hin : i < L.length
      · have t2 : decide ((i : Int) < (L.length : Int)) = true := by simp; omega
        obtain ⟨x, hx⟩ : ∃ x, L[i] = x := ⟨_, rfl⟩
        have hxo := (HOK.out x (by rw [← hx]; exact List.getElem_mem _)).up hN HBW.out
        have hyo := HY.out.up hN HBW.out
        have hT := TwoB.of (HP.out.up HBW.out) hin hx ((hb.out.block _ (bx_lt HBK.out)).trans HBK.out)
        have HCM := Lib.hid (fun W (h : Below wr.heap.size wr W) => compare_any x.p y.p x.a x.a0 x.a1 y.a y.a0 y.a1 x.c x.c0 x.c1 y.c y.c0 y.c1 N W hxo.fit (Nat.le_trans hN (Nat.le_trans hsw h.size)) (hxo.up (Nat.le_trans hN hsw) h).lies (hyo.up (Nat.le_trans hN hsw) h).lies)
        have HF := Lib.hid (show cmpP x.p y.p = 0 → findS (L.map (·.p)) y.p = i from fun h0 => hleft.out.found HS.out hin (by rw [hx]; exact h0))
        have HNF := Lib.hid (show cmpP x.p y.p ≠ 0 → findS (L.map (·.p)) y.p = -1 from fun h0 => hleft.out.none HS.out (fun _ => by rw [hx]; exact h0))
        unfold PosV at HCM
        generalize cmpP x.p y.p = z at *
        have hh0 : i < L.length := hin
        clear hxo hyo hx hleft hsw
        go_upto_region 8 with (fail)
        refine wp_region_quiet (C := TwoB wr g (off + i * 5) w.heap.size 0 x y) (by kernel_rfl) (by kernel_rfl) (hT.up (Below.refl _ _).drew) ?_
        dsimp only
        iterate 11
          refine wpQuiet_val (v := ?_) (by rfl) ?_ ?_
          rotate_left
          · ((intro W hW; (try cases hW); go_simp); try with_reducible rfl)
          (try simp only [Act.put, List.setIfInBounds_toArray, List.set_cons_zero, List.set_cons_succ])
        refine wpQuiet_val (v := .int .i64 z) (by rfl) (fun W hW => ?_) ?_
        · go_simp
          exact (HCM.out W hW.b).mono fun e w' ⟨he, hb⟩ => ⟨he, hW.up hb⟩
        (try simp only [Act.put, List.setIfInBounds_toArray, List.set_cons_zero, List.set_cons_succ])
        by_cases hz : z = 0
        · have HFF := Lib.hid (HF.out hz)
          subst hz
          iterate 4
            refine wpQuiet_val (v := ?_) (by rfl) ?_ ?_
            rotate_left
            · ((intro W hW; (try cases hW); go_simp); try with_reducible rfl)
            (try simp only [Act.put, List.setIfInBounds_toArray, List.set_cons_zero, List.set_cons_succ])
          refine wpQuiet_nil (fun W hW => ?_)
          have HBN := Lib.hid (below_step HBW.out hW.b)
          clear hT hW HCM hb HBW HF HNF
          go_wp2
          go_ret2
          exact ⟨⟨i, true, rfl, by rw [if_pos rfl]; exact HFF.out⟩, HBN.out⟩
        · have HFF := Lib.hid (HNF.out hz)
          have t3 : (z == 0) = false := by simpa using hz
          have t4 : decide (z = 0) = false := by simpa using hz
          iterate 4
            refine wpQuiet_val (v := ?_) (by rfl) ?_ ?_
            rotate_left
            · ((intro W hW; (try cases hW); go_simp); try with_reducible rfl)
            (try simp only [Act.put, List.setIfInBounds_toArray, List.set_cons_zero, List.set_cons_succ])
          refine wpQuiet_nil (fun W hW => ?_)
          have HBN := Lib.hid (below_step HBW.out hW.b)
          clear hT hW HCM hb HBW HF HNF hz
          go_wp2
          go_ret2
          exact ⟨⟨i, false, rfl, by rw [if_neg Bool.false_ne_true]; exact HFF.out⟩, HBN.out⟩
      · have t2 : decide ((i : Int) < (L.length : Int)) = false := by simp; omega
        have HFF := Lib.hid (hleft.out.none HS.out (fun hi => absurd hi hin))
        clear hleft
        go_upto_region 8 with (fail)
        refine wp_quiet_below (by kernel_rfl) (by kernel_rfl) ?_
        iterate 5
          refine wpQuiet_val (v := ?_) (by rfl) ?_ ?_
          rotate_left
          · ((intro W hW; (try cases hW); go_simp); try with_reducible rfl)
          (try simp only [Act.put, List.setIfInBounds_toArray, List.set_cons_zero, List.set_cons_succ])
        iterate 8
          refine wpQuiet_off (by rfl) ?_
          (try simp only [Act.put, List.setIfInBounds_toArray, List.set_cons_zero, List.set_cons_succ])
        iterate 3
          refine wpQuiet_val (v := ?_) (by rfl) ?_ ?_
          rotate_left
          · ((intro W hW; (try cases hW); go_simp); try with_reducible rfl)
          (try simp only [Act.put, List.setIfInBounds_toArray, List.set_cons_zero, List.set_cons_succ])
        refine wpQuiet_nil (fun W hW => ?_)
        have HBN := Lib.hid (below_step HBW.out hW.b)
        clear hW hb HBW
        go_wp2
        go_ret2
        exact ⟨⟨i, false, rfl, by rw [if_neg Bool.false_ne_true]; exact HFF.out⟩, HBN.out⟩

set_option maxRecDepth 100000 in
set_option maxHeartbeats 2000000 in
theorem find_any (L : List PosA) (y : PosA) (a : Option Addr) (cap N : Nat) (w : World) (hN : N ≤ w.heap.size) (hl : L.length ≤ 1000000000000) (hs : Srt (L.map (·.p))) (hOK : ∀ x ∈ L, AOk N w x) (hy : AOk N w y) (hP : ∃ g off, a = some ⟨g, off, none⟩ ∧ PsAt w g off L) :
    Calls Tryz.prog 24 #[.slice a L.length cap, y.val] w fun e w' => e = .returned (.int .i64 (findS (L.map (·.p)) y.p)) ∧ Below w.heap.size w w' := by
  obtain ⟨g, off, rfl, hP⟩ := hP
  have hbA : Below w.heap.size w (w.alloc (.cells #[.slice y.a y.p.cells.length y.c, .slice y.a0 y.p.h0.length y.c0, .slice y.a1 y.p.h1.length y.c1, .int .i64 y.p.rights, .int .i64 y.p.side] 32)) := below_alloc (Below.refl _ _) _
  have HB := Lib.hid (bsearch_any L y g off cap N _ (Nat.le_trans hN hbA.size) hl hs (fun x hx => (hOK x hx).up hN hbA) (hy.up hN hbA) (hP.up hbA))
  have HBA := Lib.hid hbA
  obtain ⟨R, hR⟩ : ∃ R, findS (L.map (·.p)) y.p = R := ⟨_, rfl⟩
  rw [hR] at HB ⊢
  unfold PosA.val PosV at HB ⊢
  clear hs hOK hy hP hbA hR
  go_enter Tryz.func24, Tryz.ntmps24
  go_wp2_with fail
  refine HB.out.mono ?_
  rintro e w' ⟨⟨i, f, rfl, hf⟩, hb⟩
  have hbE := below_step HBA.out hb
  have HF := Lib.hid hf
  clear hf hb HBA HB
  cases f with
  | true =>
    go_wp2
    go_ret
    exact ⟨by rw [HF.out]; rfl, hbE⟩
  | false =>
    go_wp2
    go_ret
    exact ⟨by rw [HF.out]; rfl, hbE⟩
end Go.Proofs.YtphhkfelpckilaaGreatDoor
