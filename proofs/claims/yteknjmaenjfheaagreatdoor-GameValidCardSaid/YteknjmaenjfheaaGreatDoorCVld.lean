/-
  GameValid of the laws.
-/
import Derived.Test.YteknjmaenjfheaaGreatDoorCSam
import Derived.Test.YteknjmaenjfheaaGreatDoorKMadeV
import Derived.Test.YteknjmaenjfheaaGreatDoorCSpo
namespace Go.Proofs.YteknjmaenjfheaaGreatDoor
open Go Go.RowKit Go.Lib
attribute [local irreducible] Go.wpQuiet

theorem valid_steps {g : GameD} (h : validG g = true) : ∀ k ∈ g.kinds, ∀ p ∈ k.progs, p.length ≤ 8 := by
  unfold validG at h
  simp only [Bool.and_eq_true] at h
  have hk := h.2.1
  unfold kindsB at hk
  simp only [Bool.and_eq_true] at hk
  intro k hkm p hp
  obtain ⟨i, hi, rfl⟩ := List.mem_iff_getElem.1 hkm
  have h2 := List.all_eq_true.1 hk.2.2 i (List.mem_range.2 hi)
  unfold kindAt at h2
  rw [List.getElem?_eq_getElem hi, Option.getD_some] at h2
  unfold kindB progsB at h2
  simp only [Bool.and_eq_true, Bool.not_eq_true'] at h2
  have h3 := List.any_eq_false.1 h2.2.2.2 p hp
  unfold wrongP at h3
  simp only [Bool.not_eq_true, Bool.not_eq_false'] at h3
  unfold validP at h3
  simp only [Bool.and_eq_true, decide_eq_true_eq] at h3
  exact h3.2.1
theorem lit_of {g : GameD} (h : validG g = true) : Lit g := by
  have B := validG_bounds h
  exact ⟨B.kinds.1, B.kinds.2, fun k hk => by have := (B.kind k hk).2; omega, by have := B.clauses; omega, by have := B.turn; omega, by have := B.cells; omega⟩
theorem mem_mod {α : Type} {l : List α} {i : Nat} {f : α → α} {x : α} (h : x ∈ l.modify i f) : x ∈ l ∨ ∃ y ∈ l, x = f y := by
  obtain ⟨j, hj, rfl⟩ := List.mem_iff_getElem.1 h
  have hj2 : j < l.length := by rwa [List.length_modify] at hj
  rw [List.getElem_modify]
  split
  · exact .inr ⟨l[j], List.getElem_mem hj2, rfl⟩
  · exact .inl (List.getElem_mem hj2)
theorem mod_spo {g : GameD} (h : validG g = true) (a b c : Int) : Mod (spoiltS g a b c) := by
  have B := validG_bounds h
  have hs := valid_steps h
  have hn := B.next
  have hk := B.kinds.2
  have hc := B.clauses
  have hp : ∀ k ∈ g.kinds, k.progs.length ≤ 2000 := fun k hk => by have := (B.kind k hk).2; omega
  have hst : ∀ k ∈ g.kinds, ∀ p ∈ k.progs, p.length ≤ 100 := fun k hk p hp => by have := hs k hk p hp; omega
  have base : Mod g := ⟨by omega, by omega, hp, hst, by omega⟩
  unfold spoiltS
  split
  · exact ⟨base.1, base.2, base.3, base.4, base.5⟩
  · exact ⟨base.1, base.2, base.3, base.4, base.5⟩
  · exact ⟨base.1, base.2, base.3, base.4, base.5⟩
  · refine ⟨base.1, by dsimp only; rw [List.length_modify]; omega, fun k hk => ?_, fun k hk => ?_, base.5⟩
    · rcases mem_mod hk with hk | ⟨k', hk2, rfl⟩
      · exact hp k hk
      · exact hp k' hk2
    · rcases mem_mod hk with hk | ⟨k', hk2, rfl⟩
      · exact hst k hk
      · exact hst k' hk2
  · refine ⟨base.1, by dsimp only; rw [List.length_append]; simp; omega, fun k hk => ?_, fun k hk => ?_, base.5⟩
    · rcases List.mem_append.1 hk with hk | hk
      · exact hp k hk
      · simp only [List.mem_cons, List.not_mem_nil, or_false] at hk; subst hk; simp
    · rcases List.mem_append.1 hk with hk | hk
      · exact hst k hk
      · simp only [List.mem_cons, List.not_mem_nil, or_false] at hk; subst hk; intro p hp; simp at hp
  · refine ⟨base.1, by dsimp only; rw [List.length_modify]; omega, fun k hk => ?_, fun k hk => ?_, base.5⟩
    · rcases mem_mod hk with hk | ⟨k', hk2, rfl⟩
      · exact hp k hk
      · have := (B.kind k' hk2).2; dsimp only; rw [List.length_append]; simp; omega
    · rcases mem_mod hk with hk | ⟨k', hk2, rfl⟩
      · exact hst k hk
      · intro p hpp
        dsimp only at hpp
        rcases List.mem_append.1 hpp with hpp | hpp
        · exact hst k' hk2 p hpp
        · simp only [List.mem_cons, List.not_mem_nil, or_false] at hpp; subst hpp; simp
  · refine ⟨base.1, base.2, base.3, base.4, by dsimp only; rw [List.length_append]; simp; omega⟩
  · exact ⟨base.1, base.2, base.3, base.4, base.5⟩
  · exact ⟨base.1, base.2, base.3, base.4, base.5⟩
  · exact ⟨base.1, by simp, fun k hk => by simp at hk, fun k hk => by simp at hk, base.5⟩
theorem print_empty (g : GameD) : (decide (printG g = []) = true ∧ validG g = false) ∨ (decide (printG g = []) = false ∧ validG g = true) := by
  unfold printG
  cases h : validG g with
  | false => left; simp
  | true =>
    right
    rw [if_pos rfl, decide_eq_false_iff_not]
    refine ⟨fun e => ?_, rfl⟩
    have := congrArg List.length e
    unfold writtenG boardT at this
    simp only [List.length_append, List.length_nil] at this
    have h2 : 1 ≤ (lineT [wBoard, itoa g.b.cells, itoa (g.b.next.length : Int)]).length := by unfold lineT; rw [List.length_append]; simp
    omega

set_option maxRecDepth 100000 in
set_option maxHeartbeats 3000000 in
theorem vld_any (x : GRaw) (a0 a1 a2 : Option Addr) (c0 c1 c2 N : Nat) (a b c : Int) (w : World) (ha : -128 ≤ a ∧ a ≤ 127) (hbb : -128 ≤ b ∧ b ≤ 127) (hcc : -128 ≤ c ∧ c ≤ 127) (hN : N ≤ w.heap.size) (hI : GRawIn N w a0 a1 a2 x) (hL : LibIn w) (hR : ResIn w) :
    Calls Tryz.prog 4 #[.agg (x.cells a0 a1 a2 c0 c1 c2), .agg #[.int .i8 a, .int .i8 b, .int .i8 c]] w fun e w' => e = .returned (.bool true) ∧ Below w.heap.size w w' := by
  have hbA : Below w.heap.size w ((w.alloc (.cells (x.cells a0 a1 a2 c0 c1 c2) 27)).alloc (.cells #[.int .i8 a, .int .i8 b, .int .i8 c] 53)) := below_alloc (below_alloc (Below.refl _ w) _) _
  have hx1 : ((w.alloc (.cells (x.cells a0 a1 a2 c0 c1 c2) 27)).alloc (.cells #[.int .i8 a, .int .i8 b, .int .i8 c] 53)).heap[w.heap.size]? = some (.cells (x.cells a0 a1 a2 c0 c1 c2) 27 (0, 0)) := hpo (hpn _ rfl)
  have hx2 : ((w.alloc (.cells (x.cells a0 a1 a2 c0 c1 c2) 27)).alloc (.cells #[.int .i8 a, .int .i8 b, .int .i8 c] 53)).heap[w.heap.size + 1]? = some (.cells #[.int .i8 a, .int .i8 b, .int .i8 c] 53 (0, 0)) := hpn _ (by simp)
  have HS := Lib.hid (fun W (h : Below w.heap.size w W) => sanity_any W (hL.up h) (hR.up h))
  have HM := Lib.hid (fun W (h : Below w.heap.size w W) => made_any x a0 a1 a2 c0 c1 c2 N W (Nat.le_trans hN h.size) (hI.up hN h))
  have HMV := Lib.hid (made_valid hI)
  have HL := Lib.hid hL
  have HR := Lib.hid hR
  clear hL hR hI hN
  unfold GRaw.cells at *
  go_enter Tryz.func4, Tryz.ntmps4
  go_upto_region 1 with (fail)
  generalize (w.alloc (.cells #[.int .u8 x.w, .int .u8 x.h, .int .u8 x.cut, .slice a0 x.k0.length c0, .slice a1 x.k1.length c1, .slice a2 x.c.length c2, .int .u8 (x.f 0), .int .u8 (x.f 1), .int .u8 (x.f 2), .int .u8 (x.f 3), .int .u8 (x.f 4), .int .u8 (x.f 5)] 27)).alloc (.cells #[.int .i8 a, .int .i8 b, .int .i8 c] 53) = w1 at *
  go_wp2_with fail
  refine (HS.out w1 hbA).mono ?_
  rintro e w2 ⟨rfl, hb2⟩
  have hx1 := (hb2.block _ (bx_lt hx1)).trans hx1
  have HA2 := Lib.hid ((hb2.block _ (bx_lt hx2)).trans hx2)
  have HB2 := Lib.hid (below_step hbA hb2)
  clear hx2 hbA hb2 HS
  have r0 := bx_cell hx1 0 rfl
  have r1 := bx_cell hx1 1 rfl
  have r2 := bx_cell hx1 2 rfl
  have r3 := bx_cell hx1 3 rfl
  have r4 := bx_cell hx1 4 rfl
  have r5 := bx_cell hx1 5 rfl
  have r6 := bx_cell hx1 6 rfl
  have r7 := bx_cell hx1 7 rfl
  have r8 := bx_cell hx1 8 rfl
  have r9 := bx_cell hx1 9 rfl
  have r10 := bx_cell hx1 10 rfl
  have r11 := bx_cell hx1 11 rfl
  clear hx1
  go_wp2_with fail
  refine (HM.out w2 HB2.out).mono ?_
  rintro e w3 ⟨y, rfl, hG3, hb3⟩
  clear r0 r1 r2 r3 r4 r5 r6 r7 r8 r9 r10 r11 HM
  generalize madeD x = g at *
  have HLI := Lib.hid (lit_of HMV.out)
  have HMO := Lib.hid (mod_spo HMV.out a b c)
  have hbB : Below w3.heap.size w3 (w3.alloc (.cells (g.cells y) 38)) := below_alloc (Below.refl _ _) _
  have hbox : (w3.alloc (.cells (g.cells y) 38)).heap[w3.heap.size]? = some (.cells (g.cells y) 38 (0, 0)) := hpn _ rfl
  have hA4 := (hbB.block _ (by have := bx_lt HA2.out; have := hb3.size; omega)).trans ((hb3.block _ (bx_lt HA2.out)).trans HA2.out)
  have HG4 := Lib.hid (hG3.up (Nat.le_refl _) hbB)
  have HN4 := Lib.hid hbB.size
  have HB4 := Lib.hid (below_step (below_step HB2.out hb3) hbB)
  have HSP := Lib.hid (spoilt_any g y w3.heap.size a b c (w3.alloc (.cells (g.cells y) 38)) HLI.out ha hbb hcc hbB.size HG4.out)
  clear hb3 hG3 hbB HA2 HB2
  unfold GameD.cells at hbox HG4 HN4 HB4 HSP hA4 ⊢
  go_upto_region 3 with (fail)
  obtain ⟨gb, hgb⟩ : ∃ gb, w3.heap.size = gb := ⟨_, rfl⟩
  have HGB := Lib.hid hgb
  rw [hgb] at hbox
  (try simp only [hgb])
  clear hgb
  generalize w3.alloc (.cells #[.int .i64 g.b.cells, .slice y.an g.b.next.length y.cn, .slice y.at_ g.b.turn.length y.ct, .slice y.ak g.kinds.length y.ck, .int .i64 g.rights, .bool g.must, .slice y.ac g.clauses.length y.cc, .int .i64 g.blocked, .int .i64 g.endless] 38) = w4 at *
  have q0 := bx_cell hbox 0 rfl
  have q1 := bx_cell hbox 1 rfl
  have q2 := bx_cell hbox 2 rfl
  have q3 := bx_cell hbox 3 rfl
  have q4 := bx_cell hbox 4 rfl
  have q5 := bx_cell hbox 5 rfl
  have q6 := bx_cell hbox 6 rfl
  have q7 := bx_cell hbox 7 rfl
  have q8 := bx_cell hbox 8 rfl
  have z0 := bx_cell hA4 0 rfl
  have z1 := bx_cell hA4 1 rfl
  have z2 := bx_cell hA4 2 rfl
  have HX4 := Lib.hid hbox
  clear hbox hA4
  go_wp2_with fail
  refine HSP.out.mono ?_
  rintro e w5 ⟨z, rfl, hS5, hb5⟩
  clear q0 q1 q2 q3 q4 q5 q6 q7 q8 z0 z1 z2 HSP
  generalize spoiltS g a b c = s at *
  have hbC : Below w5.heap.size w5 (w5.alloc (.cells (s.cells z) 38)) := below_alloc (Below.refl _ _) _
  have hsox : (w5.alloc (.cells (s.cells z) 38)).heap[w5.heap.size]? = some (.cells (s.cells z) 38 (0, 0)) := hpn _ rfl
  have HX6 := Lib.hid ((hbC.block _ (by have := bx_lt HX4.out; have := hb5.size; omega)).trans ((hb5.block _ (bx_lt HX4.out)).trans HX4.out))
  have HS6 := Lib.hid (hS5.up (Nat.le_refl _) hbC)
  have HNS6 := Lib.hid hbC.size
  have HG6 := Lib.hid ((HG4.out.up HN4.out hb5).up (Nat.le_trans HN4.out hb5.size) hbC)
  have HNG6 := Lib.hid (Nat.le_trans (Nat.le_trans HN4.out hb5.size) hbC.size)
  have HB6 := Lib.hid (below_step (below_step HB4.out hb5) hbC)
  have HR3 := Lib.hid (rvalid3_any s z w5.heap.size (w5.alloc (.cells (s.cells z) 38)) HMO.out hbC.size HS6.out)
  clear hb5 hS5 hbC HX4 HG4 HN4 HB4
  unfold GameD.cells at hsox HX6 HS6 HNS6 HG6 HNG6 HB6 HR3
  go_upto_region 4 with (fail)
  obtain ⟨sb, hsb⟩ : ∃ sb, w5.heap.size = sb := ⟨_, rfl⟩
  have HSB := Lib.hid hsb
  rw [hsb] at hsox
  (try simp only [hsb])
  clear hsb
  generalize w5.alloc (.cells #[.int .i64 s.b.cells, .slice z.an s.b.next.length z.cn, .slice z.at_ s.b.turn.length z.ct, .slice z.ak s.kinds.length z.ck, .int .i64 s.rights, .bool s.must, .slice z.ac s.clauses.length z.cc, .int .i64 s.blocked, .int .i64 s.endless] 38) = w6 at *
  have q0 := bx_cell hsox 0 rfl
  have q1 := bx_cell hsox 1 rfl
  have q2 := bx_cell hsox 2 rfl
  have q3 := bx_cell hsox 3 rfl
  have q4 := bx_cell hsox 4 rfl
  have q5 := bx_cell hsox 5 rfl
  have q6 := bx_cell hsox 6 rfl
  have q7 := bx_cell hsox 7 rfl
  have q8 := bx_cell hsox 8 rfl
  have HSX := Lib.hid hsox
  clear hsox
  go_wp2_with fail
  refine HR3.out.mono ?_
  rintro e w7 ⟨rfl, hb7⟩
  clear q0 q1 q2 q3 q4 q5 q6 q7 q8 HR3
  have HB7 := Lib.hid (below_step HB6.out hb7)
  have hG7 := HG6.out.up HNG6.out hb7
  have hS7 := HS6.out.up HNS6.out hb7
  have hNG7 := Nat.le_trans HNG6.out hb7.size
  have hNS7 := Nat.le_trans HNS6.out hb7.size
  have HV1 : Hid (∀ W, Below w.heap.size w W → Below w7.heap.size w7 W → Calls Tryz.prog 24 #[.agg #[.int .i64 g.b.cells, .slice y.an g.b.next.length y.cn, .slice y.at_ g.b.turn.length y.ct, .slice y.ak g.kinds.length y.ck, .int .i64 g.rights, .bool g.must, .slice y.ac g.clauses.length y.cc, .int .i64 g.blocked, .int .i64 g.endless]] W fun e w' => e = .returned (.bool true) ∧ Below W.heap.size W w') := Lib.hid (fun W h h7 => by
    have := gvalid_any g y _ W (Nat.le_trans hNG7 h7.size) (hG7.up hNG7 h7) (HL.out.up h).signs
    rw [HMV.out] at this
    exact this)
  have HV2 : Hid (∀ W, Below w.heap.size w W → Below w7.heap.size w7 W → Calls Tryz.prog 24 #[.agg #[.int .i64 s.b.cells, .slice z.an s.b.next.length z.cn, .slice z.at_ s.b.turn.length z.ct, .slice z.ak s.kinds.length z.ck, .int .i64 s.rights, .bool s.must, .slice z.ac s.clauses.length z.cc, .int .i64 s.blocked, .int .i64 s.endless]] W fun e w' => e = .returned (.bool (validG s)) ∧ Below W.heap.size W w') := Lib.hid (fun W h h7 => gvalid_any s z _ W (Nat.le_trans hNS7 h7.size) (hS7.up hNS7 h7) (HL.out.up h).signs)
  have HP1 : Hid (∀ W, Below w.heap.size w W → Below w7.heap.size w7 W → Calls Tryz.prog 15 #[.agg #[.int .i64 s.b.cells, .slice z.an s.b.next.length z.cn, .slice z.at_ s.b.turn.length z.ct, .slice z.ak s.kinds.length z.ck, .int .i64 s.rights, .bool s.must, .slice z.ac s.clauses.length z.cc, .int .i64 s.blocked, .int .i64 s.endless]] W fun e w' => e = .returned (.string ⟨(printG s).toArray⟩) ∧ Below W.heap.size W w') := Lib.hid (fun W h h7 => gprint_any s z _ W (Nat.le_trans hNS7 h7.size) (hS7.up hNS7 h7) (HL.out.up h) (HR.out.up h))
  have HP2 : Hid (∀ W, Below w7.heap.size w7 W → Calls Tryz.prog 12 #[.agg #[.int .i64 s.b.cells, .slice z.an s.b.next.length z.cn, .slice z.at_ s.b.turn.length z.ct, .slice z.ak s.kinds.length z.ck, .int .i64 s.rights, .bool s.must, .slice z.ac s.clauses.length z.cc, .int .i64 s.blocked, .int .i64 s.endless]] W fun e w' => e = .returned (.string ⟨(printG s).toArray⟩) ∧ Below W.heap.size W w') := Lib.hid (fun W h7 => rprint3_any s z _ W HMO.out (Nat.le_trans hNS7 h7.size) (hS7.up hNS7 h7))
  have hC : SC2 w7 gb sb 38 _ _ w7 := ⟨Below.refl _ _, (hb7.block _ (bx_lt HX6.out)).trans HX6.out, (hb7.block _ (bx_lt HSX.out)).trans HSX.out⟩
  have hC2 := hC.up (Below.refl _ _).drew
  have hpe := print_empty s
  generalize printG s = pg at *
  have HW1 : Hid (∀ W, Below w7.heap.size w7 W → Calls Tryz.prog 24 #[.agg #[.int .i64 g.b.cells, .slice y.an g.b.next.length y.cn, .slice y.at_ g.b.turn.length y.ct, .slice y.ak g.kinds.length y.ck, .int .i64 g.rights, .bool g.must, .slice y.ac g.clauses.length y.cc, .int .i64 g.blocked, .int .i64 g.endless]] W fun e w' => e = .returned (.bool true) ∧ Below W.heap.size W w') := Lib.hid (fun W h7 => HV1.out W (HB7.out.trans (h7.mono HB7.out.size)) h7)
  have HW2 : Hid (∀ W, Below w7.heap.size w7 W → Calls Tryz.prog 24 #[.agg #[.int .i64 s.b.cells, .slice z.an s.b.next.length z.cn, .slice z.at_ s.b.turn.length z.ct, .slice z.ak s.kinds.length z.ck, .int .i64 s.rights, .bool s.must, .slice z.ac s.clauses.length z.cc, .int .i64 s.blocked, .int .i64 s.endless]] W fun e w' => e = .returned (.bool (validG s)) ∧ Below W.heap.size W w') := Lib.hid (fun W h7 => HV2.out W (HB7.out.trans (h7.mono HB7.out.size)) h7)
  have HW3 : Hid (∀ W, Below w7.heap.size w7 W → Calls Tryz.prog 15 #[.agg #[.int .i64 s.b.cells, .slice z.an s.b.next.length z.cn, .slice z.at_ s.b.turn.length z.ct, .slice z.ak s.kinds.length z.ck, .int .i64 s.rights, .bool s.must, .slice z.ac s.clauses.length z.cc, .int .i64 s.blocked, .int .i64 s.endless]] W fun e w' => e = .returned (.string ⟨pg.toArray⟩) ∧ Below W.heap.size W w') := Lib.hid (fun W h7 => HP1.out W (HB7.out.trans (h7.mono HB7.out.size)) h7)
  clear hC hb7 hG7 hS7 hNG7 hNS7 HV1 HV2 HP1 HX6 HSX HS6 HG6 HNS6 HNG6 HB6 ha hbb hcc
  generalize validG s = vb at *
  go_upto_region 5 with (fail)
  refine wp_region_quiet (C := SC2 w7 gb sb 38 _ _) (by kernel_rfl) (by kernel_rfl) hC2 ?_
  clear hC2
  dsimp only
  refine wpQuiet_val (v := .agg #[.int .i64 g.b.cells, .slice y.an g.b.next.length y.cn, .slice y.at_ g.b.turn.length y.ct, .slice y.ak g.kinds.length y.ck, .int .i64 g.rights, .bool g.must, .slice y.ac g.clauses.length y.cc, .int .i64 g.blocked, .int .i64 g.endless]) (by rfl) (fun W hW => ?_) ?_
  · have q0 := bx_cell hW.h1 0 rfl
    have q1 := bx_cell hW.h1 1 rfl
    have q2 := bx_cell hW.h1 2 rfl
    have q3 := bx_cell hW.h1 3 rfl
    have q4 := bx_cell hW.h1 4 rfl
    have q5 := bx_cell hW.h1 5 rfl
    have q6 := bx_cell hW.h1 6 rfl
    have q7 := bx_cell hW.h1 7 rfl
    have q8 := bx_cell hW.h1 8 rfl
    go_simp
  (try simp only [Act.put, List.setIfInBounds_toArray, List.set_cons_zero, List.set_cons_succ])
  refine wpQuiet_val (v := (.bool true)) (by rfl) (fun W hW => ?_) ?_
  · go_simp
    exact (HW1.out W hW.b).mono fun e w' ⟨he, hb⟩ => ⟨he, hW.up hb⟩
  (try simp only [Act.put, List.setIfInBounds_toArray, List.set_cons_zero, List.set_cons_succ])
  refine wpQuiet_val (v := ?_) (by rfl) ?_ ?_
  rotate_left
  · ((intro W hW; (try cases hW); go_simp); try with_reducible rfl)
  (try simp only [Act.put, List.setIfInBounds_toArray, List.set_cons_zero, List.set_cons_succ])
  refine wpQuiet_val (v := .agg #[.int .i64 s.b.cells, .slice z.an s.b.next.length z.cn, .slice z.at_ s.b.turn.length z.ct, .slice z.ak s.kinds.length z.ck, .int .i64 s.rights, .bool s.must, .slice z.ac s.clauses.length z.cc, .int .i64 s.blocked, .int .i64 s.endless]) (by rfl) (fun W hW => ?_) ?_
  · have q0 := bx_cell hW.h2 0 rfl
    have q1 := bx_cell hW.h2 1 rfl
    have q2 := bx_cell hW.h2 2 rfl
    have q3 := bx_cell hW.h2 3 rfl
    have q4 := bx_cell hW.h2 4 rfl
    have q5 := bx_cell hW.h2 5 rfl
    have q6 := bx_cell hW.h2 6 rfl
    have q7 := bx_cell hW.h2 7 rfl
    have q8 := bx_cell hW.h2 8 rfl
    go_simp
  (try simp only [Act.put, List.setIfInBounds_toArray, List.set_cons_zero, List.set_cons_succ])
  refine wpQuiet_val (v := (.bool vb)) (by rfl) (fun W hW => ?_) ?_
  · go_simp
    exact (HW2.out W hW.b).mono fun e w' ⟨he, hb⟩ => ⟨he, hW.up hb⟩
  (try simp only [Act.put, List.setIfInBounds_toArray, List.set_cons_zero, List.set_cons_succ])
  rcases hpe with ⟨hpe, rfl⟩ | ⟨hpe, rfl⟩
  · have he : pg = [] := by simpa using hpe
    subst he
    iterate 4
      refine wpQuiet_val (v := ?_) (by rfl) ?_ ?_
      rotate_left
      · ((intro W hW; (try cases hW); go_simp); try with_reducible rfl)
      (try simp only [Act.put, List.setIfInBounds_toArray, List.set_cons_zero, List.set_cons_succ])
    refine wpQuiet_val (v := .agg #[.int .i64 s.b.cells, .slice z.an s.b.next.length z.cn, .slice z.at_ s.b.turn.length z.ct, .slice z.ak s.kinds.length z.ck, .int .i64 s.rights, .bool s.must, .slice z.ac s.clauses.length z.cc, .int .i64 s.blocked, .int .i64 s.endless]) (by rfl) (fun W hW => ?_) ?_
    · have q0 := bx_cell hW.h2 0 rfl
      have q1 := bx_cell hW.h2 1 rfl
      have q2 := bx_cell hW.h2 2 rfl
      have q3 := bx_cell hW.h2 3 rfl
      have q4 := bx_cell hW.h2 4 rfl
      have q5 := bx_cell hW.h2 5 rfl
      have q6 := bx_cell hW.h2 6 rfl
      have q7 := bx_cell hW.h2 7 rfl
      have q8 := bx_cell hW.h2 8 rfl
      go_simp
    (try simp only [Act.put, List.setIfInBounds_toArray, List.set_cons_zero, List.set_cons_succ])
    refine wpQuiet_val (v := (.string ⟨#[]⟩)) (by rfl) (fun W hW => ?_) ?_
    · go_simp
      exact (HW3.out W hW.b).mono fun e w' ⟨he, hb⟩ => ⟨he, hW.up hb⟩
    (try simp only [Act.put, List.setIfInBounds_toArray, List.set_cons_zero, List.set_cons_succ])
    iterate 8
      refine wpQuiet_val (v := ?_) (by rfl) ?_ ?_
      rotate_left
      · ((intro W hW; (try cases hW); go_simp); try with_reducible rfl)
      (try simp only [Act.put, List.setIfInBounds_toArray, List.set_cons_zero, List.set_cons_succ])
    iterate 5
      refine wpQuiet_off (by rfl) ?_
      (try simp only [Act.put, List.setIfInBounds_toArray, List.set_cons_zero, List.set_cons_succ])
    iterate 6
      refine wpQuiet_val (v := ?_) (by rfl) ?_ ?_
      rotate_left
      · ((intro W hW; (try cases hW); go_simp); try with_reducible rfl)
      (try simp only [Act.put, List.setIfInBounds_toArray, List.set_cons_zero, List.set_cons_succ])
    refine wpQuiet_nil (fun w9 hW => ?_)
    have HB9 := Lib.hid (below_step HB7.out hW.b)
    clear hW
    go_wp2
    go_ret
    exact ⟨by first | rfl | simp, HB9.out⟩
  · have he : ¬ pg = [] := by simpa using hpe
    have he2 : (pg != []) = true := by simpa using hpe
    have he3 : (pg == []) = false := by simpa using hpe
    iterate 4
      refine wpQuiet_val (v := ?_) (by rfl) ?_ ?_
      rotate_left
      · ((intro W hW; (try cases hW); go_simp); try with_reducible rfl)
      (try simp only [Act.put, List.setIfInBounds_toArray, List.set_cons_zero, List.set_cons_succ])
    refine wpQuiet_val (v := .agg #[.int .i64 s.b.cells, .slice z.an s.b.next.length z.cn, .slice z.at_ s.b.turn.length z.ct, .slice z.ak s.kinds.length z.ck, .int .i64 s.rights, .bool s.must, .slice z.ac s.clauses.length z.cc, .int .i64 s.blocked, .int .i64 s.endless]) (by rfl) (fun W hW => ?_) ?_
    · have q0 := bx_cell hW.h2 0 rfl
      have q1 := bx_cell hW.h2 1 rfl
      have q2 := bx_cell hW.h2 2 rfl
      have q3 := bx_cell hW.h2 3 rfl
      have q4 := bx_cell hW.h2 4 rfl
      have q5 := bx_cell hW.h2 5 rfl
      have q6 := bx_cell hW.h2 6 rfl
      have q7 := bx_cell hW.h2 7 rfl
      have q8 := bx_cell hW.h2 8 rfl
      go_simp
    (try simp only [Act.put, List.setIfInBounds_toArray, List.set_cons_zero, List.set_cons_succ])
    refine wpQuiet_val (v := (.string ⟨pg.toArray⟩)) (by rfl) (fun W hW => ?_) ?_
    · go_simp
      exact (HW3.out W hW.b).mono fun e w' ⟨he, hb⟩ => ⟨he, hW.up hb⟩
    (try simp only [Act.put, List.setIfInBounds_toArray, List.set_cons_zero, List.set_cons_succ])
    iterate 8
      refine wpQuiet_val (v := ?_) (by rfl) ?_ ?_
      rotate_left
      · ((intro W hW; (try cases hW); go_simp); try with_reducible rfl)
      (try simp only [Act.put, List.setIfInBounds_toArray, List.set_cons_zero, List.set_cons_succ])
    refine wpQuiet_val (v := .agg #[.int .i64 s.b.cells, .slice z.an s.b.next.length z.cn, .slice z.at_ s.b.turn.length z.ct, .slice z.ak s.kinds.length z.ck, .int .i64 s.rights, .bool s.must, .slice z.ac s.clauses.length z.cc, .int .i64 s.blocked, .int .i64 s.endless]) (by rfl) (fun W hW => ?_) ?_
    · have q0 := bx_cell hW.h2 0 rfl
      have q1 := bx_cell hW.h2 1 rfl
      have q2 := bx_cell hW.h2 2 rfl
      have q3 := bx_cell hW.h2 3 rfl
      have q4 := bx_cell hW.h2 4 rfl
      have q5 := bx_cell hW.h2 5 rfl
      have q6 := bx_cell hW.h2 6 rfl
      have q7 := bx_cell hW.h2 7 rfl
      have q8 := bx_cell hW.h2 8 rfl
      go_simp
    (try simp only [Act.put, List.setIfInBounds_toArray, List.set_cons_zero, List.set_cons_succ])
    refine wpQuiet_val (v := (.string ⟨pg.toArray⟩)) (by rfl) (fun W hW => ?_) ?_
    · go_simp
      exact (HW3.out W hW.b).mono fun e w' ⟨he, hb⟩ => ⟨he, hW.up hb⟩
    (try simp only [Act.put, List.setIfInBounds_toArray, List.set_cons_zero, List.set_cons_succ])
    refine wpQuiet_val (v := .agg #[.int .i64 s.b.cells, .slice z.an s.b.next.length z.cn, .slice z.at_ s.b.turn.length z.ct, .slice z.ak s.kinds.length z.ck, .int .i64 s.rights, .bool s.must, .slice z.ac s.clauses.length z.cc, .int .i64 s.blocked, .int .i64 s.endless]) (by rfl) (fun W hW => ?_) ?_
    · have q0 := bx_cell hW.h2 0 rfl
      have q1 := bx_cell hW.h2 1 rfl
      have q2 := bx_cell hW.h2 2 rfl
      have q3 := bx_cell hW.h2 3 rfl
      have q4 := bx_cell hW.h2 4 rfl
      have q5 := bx_cell hW.h2 5 rfl
      have q6 := bx_cell hW.h2 6 rfl
      have q7 := bx_cell hW.h2 7 rfl
      have q8 := bx_cell hW.h2 8 rfl
      go_simp
    (try simp only [Act.put, List.setIfInBounds_toArray, List.set_cons_zero, List.set_cons_succ])
    refine wpQuiet_val (v := (.string ⟨pg.toArray⟩)) (by rfl) (fun W hW => ?_) ?_
    · go_simp
      exact (HP2.out W hW.b).mono fun e w' ⟨he, hb⟩ => ⟨he, hW.up hb⟩
    (try simp only [Act.put, List.setIfInBounds_toArray, List.set_cons_zero, List.set_cons_succ])
    iterate 7
      refine wpQuiet_val (v := ?_) (by rfl) ?_ ?_
      rotate_left
      · ((intro W hW; (try cases hW); go_simp); try with_reducible rfl)
      (try simp only [Act.put, List.setIfInBounds_toArray, List.set_cons_zero, List.set_cons_succ])
    refine wpQuiet_nil (fun w9 hW => ?_)
    have HB9 := Lib.hid (below_step HB7.out hW.b)
    clear hW
    go_wp2
    go_ret
    exact ⟨by first | rfl | simp, HB9.out⟩
end Go.Proofs.YteknjmaenjfheaaGreatDoor
