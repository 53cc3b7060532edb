/-
  Sort of the package pos.
-/
import Derived.Test.YtphhkfelpckilaaGreatDoorDCmpW
import Derived.Test.YtphhkfelpckilaaGreatDoorShelfC
namespace Go.Proofs.YtphhkfelpckilaaGreatDoor
open Go Go.RowKit Go.Lib Go.Sort

/-- A list of positions lies there. -/
def PsAt (W : World) (b off : Nat) (L : List PosA) : Prop := ∀ i c, (hi : i < L.length) → c < 5 → W.cell? ⟨b, off + (i * 5 + c), none⟩ = (PosA.enc L[i])[c]?
theorem info_pos5 : (Tryz.prog.info? 32).map (fun i => (i.zero, i.size, i.bytes)) = some (some (.agg #[.slice none 0 0, .slice none 0 0, .slice none 0 0, .int .i64 0, .int .i64 0]), 5, 88) := by kernel_rfl
theorem clonePs_any (L : List PosA) (b off cap : Nat) (w : World) (hl : L.length ≤ 1000000000000) (h : PsAt w b off L) :
    Calls Tryz.prog 40 #[.slice (some ⟨b, off, none⟩) L.length cap] w fun e w' => ∃ g c', e = .returned (.slice (some ⟨g, 0, none⟩) L.length c') ∧ OwnPs w.heap.size w' (.slice (some ⟨g, 0, none⟩) L.length c') L ∧ Below w.heap.size w w' := by
  obtain ⟨i0, hi, hz0, hz1, hz2⟩ := info_parts info_pos5
  have hcon := AnyE.slices_Clone Tryz.clonePos i0 _ 5 88 hi hz0 hz1 hz2 rfl (by decide) (fun w => by simp [Go.sizeOf, typeInfo, show Tryz.clonePos_ren.t 23 = 32 from rfl, hi, hz1]) b off L.length cap (L.flatMap PosA.enc) w (fm_length PosA.enc_len L) (by unfold maxLen; omega) (by omega)
    (fun j u hu => by
      have hj : j < L.length * 5 := by have := (List.getElem?_eq_some_iff.1 hu).1; rwa [fm_length PosA.enc_len] at this
      have e : j = j / 5 * 5 + j % 5 := by omega
      have hd : j / 5 < L.length := by omega
      have hm : j % 5 < 5 := Nat.mod_lt _ (by omega)
      rw [e] at hu ⊢
      rw [h (j / 5) (j % 5) hd hm, ← hu, fm_get PosA.enc_len L (j / 5) (j % 5) hd hm])
    (fun u hu => by
      obtain ⟨x, _, hx⟩ := List.mem_flatMap.1 hu
      exact x.enc_one u hx)
  refine Calls.mono hcon ?_
  rintro e w' ⟨v, rfl, h1, h2, h3⟩
  rcases h1.2 with ⟨h0, _⟩ | ⟨g, c', cur, hv, _⟩
  · exact absurd h0 h2
  · subst hv
    exact ⟨g, c', rfl, h1, h3⟩

/-- Copies, and what is still to copy. -/
structure Cops (K N : Nat) (W : World) (R D : List PosA) (q : Nat) : Prop where
  len : R.length = D.length
  same : ∀ j (h : j < R.length), (R[j]).p = (D[j]'(by omega)).p
  own : ∀ j (h : j < R.length), j < q → PosOwn K W R[j].a R[j].a0 R[j].a1 R[j].c R[j].c0 R[j].c1 R[j].p
  rest : ∀ j (h : j < R.length), q ≤ j → R[j] = D[j]'(by omega)

theorem PosOwn.alters_ {K : Nat} {W W' : World} {a a0 a1 : Option Addr} {c c0 c1 : Nat} {p : PosS} {S : Nat → Prop} (h : PosOwn K W a a0 a1 c c0 c1 p) (ha : Alters S W W') (hS : ∀ k, S k → k < K) : PosOwn K W' a a0 a1 c c0 c1 p := by
  have hk : ∀ {v : Value} {l : List Int}, OwnInts K W v l → OwnInts K W' v l := fun {v l} ho => ho.alters ha (fun k hk hv => by have := (World.ownsRow.lt ho k hv.symm).1; have := hS k hk; omega)
  exact ⟨hk h.cells, hk h.h0, hk h.h1⟩
theorem Cops.next {K N : Nat} {W W' : World} {R D : List PosA} {q g : Nat} (h : Cops K N W R D q) (hq : q < R.length) (hg : g < K) (hb : Below W.heap.size W W') (y : PosA) (hy : y.p = (R[q]).p) (ho : PosOwn K W' y.a y.a0 y.a1 y.c y.c0 y.c1 y.p) : Cops K N (setAt W' g q y) (R.set q y) D (q + 1) := by
  have hal := setAt_alters W' g q y
  have hS : ∀ k, k = g → k < K := fun k e => by rw [e]; exact hg
  refine ⟨by rw [List.length_set]; exact h.len, fun j hj => ?_, fun j hj hjq => ?_, fun j hj hjq => ?_⟩
  · have hj' : j < R.length := by simpa using hj
    by_cases e : j = q
    · subst e; rw [List.getElem_set_self, hy, h.same j hj']
    · rw [List.getElem_set_ne (fun h => e h.symm), h.same j hj']
  · have hj' : j < R.length := by simpa using hj
    by_cases e : j = q
    · subst e; rw [List.getElem_set_self]; exact ho.alters_ hal hS
    · rw [List.getElem_set_ne (fun h => e h.symm)]
      exact ((h.own j hj' (by omega)).up hb).alters_ hal hS
  · have hj' : j < R.length := by simpa using hj
    rw [List.getElem_set_ne (by omega), h.rest j hj' (by omega)]
theorem Cops.start (K N : Nat) (W : World) (D : List PosA) : Cops K N W D D 0 := ⟨rfl, fun _ _ => rfl, fun _ _ h => absurd h (Nat.not_lt_zero _), fun _ _ _ => rfl⟩

set_option maxRecDepth 100000 in
set_option maxHeartbeats 4000000 in
theorem sort_any (L : List PosA) (b off cap N : Nat) (w : World) (hN : N ≤ w.heap.size) (hl : L.length ≤ 1000000000000) (hOK : ∀ x ∈ L, AOk N w x) (hsm : ∀ x ∈ L, PosSmall x.p) (h : PsAt w b off L) :
    Calls Tryz.prog 17 #[.slice (some ⟨b, off, none⟩) L.length cap] w fun e w' => ∃ (R : List PosA) (g c' : Nat), e = .returned (.slice (some ⟨g, 0, none⟩) R.length c') ∧ R.map (·.p) = sortS (L.map (·.p)) ∧ OwnPs w.heap.size w' (.slice (some ⟨g, 0, none⟩) R.length c') R ∧
      (∀ x ∈ R, PosOwn w.heap.size w' x.a x.a0 x.a1 x.c x.c0 x.c1 x.p) ∧ Below w.heap.size w w' := by
  have HCL := Lib.hid (clonePs_any L b off cap w hl h)
  have HOK := Lib.hid hOK
  have HSM := Lib.hid hsm
  clear h hOK hsm
  go_enter Tryz.func17, Tryz.ntmps17
  go_wp2_with fail
  refine HCL.out.mono ?_
  rintro e w2 ⟨g, c', rfl, ho, hb2⟩
  have hs2 := hb2.size
  have hg := World.ownsRow.lt ho g rfl
  have HSF := Lib.hid (sortF_any L g c' w.heap.size N w2 (Nat.le_trans hN hs2) (Nat.le_trans hN hg.1) (fun x hx => (HOK.out x hx).up hN hb2) ho (by omega))
  have HG := Lib.hid hg.1
  clear HCL ho hg
  go_wp2_with fail
  refine HSF.out.mono ?_
  rintro e w3 ⟨rfl, L2, hperm, hord, ho3, ha3⟩
  have hb3 : Below w.heap.size w w3 := hb2.trans (ha3.below hs2 (fun k hk => by have e : k = g := hk; rw [e]; exact HG.out))
  have hs3 := hb3.size
  have hlen2 : L2.length = L.length := hperm.length_eq
  have HOK3 := Lib.hid (fun x (hx : x ∈ L2) => (HOK.out x (hperm.mem_iff.1 hx)).up hN hb3)
  rw [← hlen2] at ho3
  have HCF := Lib.hid (compactF_any L2 g c' w.heap.size N w3 (Nat.le_trans hN hs3) (Nat.le_trans hN HG.out) HOK3.out ho3 (by omega))
  rw [hlen2] at HCF
  have HDL := Lib.hid (show ddA (nth L2) L2.length = ddA (nth L2) L2.length ∧ Srt ((ddA (nth L2) L2.length).map (·.p)) ∧ (∀ p, p ∈ (ddA (nth L2) L2.length).map (·.p) ↔ p ∈ L.map (·.p)) ∧ (∀ x ∈ ddA (nth L2) L2.length, x ∈ L) from ⟨rfl, by
      rw [ddA_map]
      exact ddupTo_srt _ L2.length (fun i j hij hj => by
        have := hord i j hj hij
        rwa [← nth_get hj, ← nth_get (show i < L2.length by omega)] at this) _ (Nat.le_refl _), fun p => by
      rw [ddA_map, ddupTo_mem]
      constructor
      · rintro ⟨j, hj, rfl⟩
        rw [nth_get hj]
        exact List.mem_map.2 ⟨_, hperm.mem_iff.1 (List.getElem_mem hj), rfl⟩
      · intro hp
        obtain ⟨x, hx, rfl⟩ := List.mem_map.1 hp
        obtain ⟨j, hj, rfl⟩ := List.getElem_of_mem (hperm.mem_iff.2 hx)
        exact ⟨j, hj, by rw [nth_get hj]⟩, fun x hx => by
      obtain ⟨j, hj, rfl⟩ := ddA_mem _ _ _ hx
      rw [nth_get hj]
      exact hperm.mem_iff.1 (List.getElem_mem hj)⟩)
  rw [hlen2] at HDL
  have HDll := Lib.hid (show (ddA (nth L2) L.length).length ≤ L.length from ddA_len _ _)
  generalize ddA (nth L2) L.length = D at *
  clear HSF hperm hord ho3 ha3 hb2 HOK3
  go_wp2_with fail
  refine HCF.out.mono ?_
  rintro e w4 ⟨rfl, ho4, ha4⟩
  have hb4 : Below w.heap.size w w4 := hb3.trans (ha4.below hs3 (fun k hk => by have e : k = g := hk; rw [e]; exact HG.out))
  clear HCF hb3 ha4
  have hK : g < w4.heap.size := (World.ownsRow.lt ho4 g rfl).2
  obtain ⟨K, hKe⟩ : ∃ K, K = w4.heap.size := ⟨_, rfl⟩
  have HKE := Lib.hid hKe
  rw [← hKe] at hK
  have HO4 := Lib.hid ho4
  have HB4 := Lib.hid hb4
  clear hKe hs2 hs3 ho4 hb4
  go_wp2
  go_loopw [14] (fun i wr => ∃ (q : Nat) (R : List PosA), q ≤ R.length ∧ R.length = D.length ∧ i = .int .i64 q ∧ Hid (Below w.heap.size w wr) ∧ K ≤ wr.heap.size ∧ Hid (OwnPs w.heap.size wr (.slice (some ⟨g, 0, none⟩) R.length c') R) ∧ Hid (Cops K N wr R D q))
    (fun i _ => D.length - (intOf i).toNat)
  case atStart => exact ⟨0, D, Nat.zero_le _, rfl, rfl, HB4, by rw [HKE.out]; exact Nat.le_refl _, HO4, Lib.hid (Cops.start K N w4 D)⟩
  case round =>
    obtain ⟨q, R, hq, hRD, rfl, hb, hKw, ho, hc⟩ := hrel
    by_cases hlt : q < R.length
    · have hx : ∃ x, R[q] = x := ⟨_, rfl⟩
      obtain ⟨x, hx⟩ := hx
      have r0 := ho.out.cell hlt (c := 0) (by omega)
      have r1 := ho.out.cell hlt (c := 1) (by omega)
      have r2 := ho.out.cell hlt (c := 2) (by omega)
      have r3 := ho.out.cell hlt (c := 3) (by omega)
      have r4 := ho.out.cell hlt (c := 4) (by omega)
      have hxD := hc.out.rest q hlt (Nat.le_refl _)
      have hxL : x ∈ L := by rw [← hx, hxD]; exact HDL.out.2.2.2 _ (List.getElem_mem _)
      rw [hx] at r0 r1 r2 r3 r4
      simp only [PosA.enc, List.getElem?_cons_zero, List.getElem?_cons_succ, Nat.add_zero] at r0 r1 r2 r3 r4
      have hxo := (HOK.out x hxL).up hN hb.out
      have hxs := HSM.out x hxL
      have hsw := hb.out.size
      have hbA : Below wr.heap.size wr (wr.alloc (.cells #[.slice x.a x.p.cells.length x.c, .slice x.a0 x.p.h0.length x.c0, .slice x.a1 x.p.h1.length x.c1, .int .i64 x.p.rights, .int .i64 x.p.side] 32)) := below_alloc (Below.refl _ _) _
      have hblk : (wr.alloc (.cells #[.slice x.a x.p.cells.length x.c, .slice x.a0 x.p.h0.length x.c0, .slice x.a1 x.p.h1.length x.c1, .int .i64 x.p.rights, .int .i64 x.p.side] 32)).heap[wr.heap.size]? = some (.cells #[.slice x.a x.p.cells.length x.c, .slice x.a0 x.p.h0.length x.c0, .slice x.a1 x.p.h1.length x.c1, .int .i64 x.p.rights, .int .i64 x.p.side] 32 (0, 0)) := World.alloc_heap_new _ _
      have hgl : g < wr.heap.size := by omega
      have HX := Lib.hid hx
      have hlt3 : q < D.length := by omega
      have hdl := HDll.out
      have hi4 := IntWalk.i64_in ((q : Int) + 1) (by omega)
      have HRD := Lib.hid hRD
      go_upto_region 7 with (fail)
      generalize wr.alloc (.cells #[.slice x.a x.p.cells.length x.c, .slice x.a0 x.p.h0.length x.c0, .slice x.a1 x.p.h1.length x.c1, .int .i64 x.p.rights, .int .i64 x.p.side] 32) = w5 at *
      have p0 := bx_cell hblk 0 rfl
      have p1 := bx_cell hblk 1 rfl
      have p2 := bx_cell hblk 2 rfl
      have p3 := bx_cell hblk 3 rfl
      have p4 := bx_cell hblk 4 rfl
      have lp := bx_lt hblk
      have hN5 := Nat.le_trans hN (Nat.le_trans hsw hbA.size)
      have HCP := Lib.hid (copied_any x.p x.a x.a0 x.a1 x.c x.c0 x.c1 N w5 hxs hN5 (hxo.up (Nat.le_trans hN hsw) hbA).lies)
      have HBA := Lib.hid hbA
      unfold PosV at HCP
      clear hbA hblk hxo hxs r0 r1 r2 r3 r4 hRD hN5
      go_wp2_with fail
      refine HCP.out.mono ?_
      rintro e w6 ⟨b', b0', b1', d, d0, d1, rfl, hpo, hb6⟩
      have hb56 := below_step HBA.out hb6
      have HB56 := Lib.hid hb56
      have ho6 := ho.out.up hb56
      have r0 := ho6.cell hlt (c := 0) (by omega)
      have r1 := ho6.cell hlt (c := 1) (by omega)
      have r2 := ho6.cell hlt (c := 2) (by omega)
      have r3 := ho6.cell hlt (c := 3) (by omega)
      have r4 := ho6.cell hlt (c := 4) (by omega)
      rw [hx] at r0 r1 r2 r3 r4
      simp only [PosA.enc, List.getElem?_cons_zero, List.getElem?_cons_succ, Nat.add_zero] at r0 r1 r2 r3 r4
      have f0 := ho6.frozen (q * 5)
      have f1 := ho6.frozen (q * 5 + 1)
      have f2 := ho6.frozen (q * 5 + 2)
      have f3 := ho6.frozen (q * 5 + 3)
      have f4 := ho6.frozen (q * 5 + 4)
      have hgl6 : g < w6.heap.size := Nat.lt_of_lt_of_le hgl hb56.size
      have HOS := Lib.hid (ho6.set hlt ⟨x.p, b', b0', b1', d, d0, d1⟩)
      have HCS := Lib.hid (hc.out.next hlt hK hb56 ⟨x.p, b', b0', b1', d, d0, d1⟩ (by rw [hx]) (hpo.mono (Nat.le_trans hKw HBA.out.size)))
      have HBS := Lib.hid ((below_step hb.out hb56).trans ((setAt_alters w6 g q ⟨x.p, b', b0', b1', d, d0, d1⟩).below (Nat.le_trans hsw hb56.size) (fun k hk => by have e : k = g := hk; rw [e]; exact HG.out)))
      have hsz6 : K ≤ (setAt w6 g q ⟨x.p, b', b0', b1', d, d0, d1⟩).heap.size := Nat.le_trans (Nat.le_trans hKw hb56.size) (setAt_alters w6 g q ⟨x.p, b', b0', b1', d, d0, d1⟩).size
      have HSZ := Lib.hid hsz6
      unfold setAt at HOS HCS HBS HSZ
      clear p0 p1 p2 p3 p4 lp hb56 hb6 hpo ho6 hx hxD hxL HBA HCP ho hc hb hsz6
      go_wp2
      go_roundw
      case rel => exact ⟨q + 1, R.set q ⟨x.p, b', b0', b1', d, d0, d1⟩, by rw [List.length_set]; omega, by rw [List.length_set]; exact HRD.out, by simp, HBS, HSZ.out, Lib.hid (by have h8 := HOS.out; rw [List.length_set]; exact h8), HCS⟩
      case measure => simp [intOf]; omega
    · obtain rfl : q = R.length := by omega
      have hfin : R.map (·.p) = sortS (L.map (·.p)) ∧ (∀ x ∈ R, PosOwn K wr x.a x.a0 x.a1 x.c x.c0 x.c1 x.p) := by
        have e : R.map (·.p) = D.map (·.p) := by
          apply List.ext_getElem
          · simp [hRD]
          · intro i h1 h2
            simpa using hc.out.same i (by simpa using h1)
        refine ⟨by rw [e]; exact sortS_eq HDL.out.2.1 HDL.out.2.2.1, fun x hx => ?_⟩
        obtain ⟨j, hj, rfl⟩ := List.getElem_of_mem hx
        exact hc.out.own j hj hj
      have HFIN := Lib.hid hfin
      have hKl : w.heap.size ≤ K := Nat.le_of_lt (Nat.lt_of_le_of_lt HG.out hK)
      have hnl : ¬ R.length < D.length := by omega
      have HRDe := Lib.hid hRD
      clear hfin hc hKw hRD
      go_wp2
      go_ret
      exact ⟨R, g, c', by rw [HRDe.out]; rfl, HFIN.out.1, ho.out, fun x hx => (HFIN.out.2 x hx).mono hKl, hb.out⟩
end Go.Proofs.YtphhkfelpckilaaGreatDoor
