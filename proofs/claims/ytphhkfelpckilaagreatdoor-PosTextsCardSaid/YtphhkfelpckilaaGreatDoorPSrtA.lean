/-
  Of the laws of positions: has.
  Lists of positions that are turned and joined: appends of many positions, members, whoever is in them.
-/
import Derived.Test.YtphhkfelpckilaaGreatDoorDRefL
import Derived.Test.YtphhkfelpckilaaGreatDoorDEq
import Derived.Test.YtphhkfelpckilaaGreatDoorGMany
import Derived.Test.YtphhkfelpckilaaGreatDoorDSortW
namespace Go.Proofs.YtphhkfelpckilaaGreatDoor
open Go Go.RowKit Go.Lib Go.Sort
attribute [local irreducible] Go.wpQuiet

theorem ps_one {W : World} {g : Nat} {y : PosA} (h : W.heap[g]? = some (.cells y.enc.toArray 32 (0, 0))) : PsAt W g 0 [y] := by
  intro i c hi hc
  obtain rfl : i = 0 := by simpa using hi
  have hlt : c < y.enc.toArray.size := by simpa [PosA.enc_len] using hc
  rw [Nat.zero_mul, Nat.zero_add, Nat.zero_add, bx_cell h c (Array.getElem?_eq_getElem hlt)]
  simp
set_option maxRecDepth 100000 in
set_option maxHeartbeats 4000000 in
theorem has_any (L : List PosA) (y : PosA) (a : Option Addr) (cap N : Nat) (w : World) (hN : N ≤ w.heap.size) (hl : L.length ≤ 1000000000000) (hL : ∀ x ∈ L, AOk N w x) (hy : AOk N w y) (hP : PsIn w a L) :
    Calls Tryz.prog 32 #[.slice a L.length cap, y.val] w fun e w' => e = .returned (.bool (decide (y.p ∈ L.map (·.p)))) ∧ Below w.heap.size w w' := by
  have hA : Below w.heap.size w (w.alloc (.cells y.enc.toArray 32)) := below_alloc (Below.refl _ _) _
  have hY1 := ps_one (World.alloc_heap_new w (.cells y.enc.toArray 32))
  have hN1 := Nat.le_trans hN hA.size
  have HL := Lib.hid (fun x hx => (hL x hx).up hN hA)
  have HY := Lib.hid (hy.up hN hA)
  have HP := Lib.hid (hP.up hA)
  have HA := Lib.hid hA
  have HQ := Lib.hid hY1
  clear hL hy hP hY1 hA
  unfold PosA.enc at HL HY HP HA HQ hN1
  unfold PosA.val PosV
  go_enter Tryz.func32, Tryz.ntmps32
  go_upto_region 1 with (fail)
  generalize w.alloc (.cells #[.slice y.a y.p.cells.length y.c, .slice y.a0 y.p.h0.length y.c0, .slice y.a1 y.p.h1.length y.c1, .int .i64 y.p.rights, .int .i64 y.p.side] 32) = w0 at *
  go_wp2_with fail
  go_loopw [5] (fun i wr => ∃ k : Nat, k ≤ L.length ∧ i = .int .i64 k ∧ Hid (∀ j (h : j < L.length), j < k → (L[j]).p ≠ y.p) ∧ Hid (Below w0.heap.size w0 wr)) (fun i _ => L.length - (intOf i).toNat)
  case atStart => exact ⟨0, Nat.zero_le _, rfl, Lib.hid (fun j _ h => absurd h (Nat.not_lt_zero _)), Lib.hid (Below.refl _ _)⟩
  case round =>
    obtain ⟨k, hk, rfl, hall, hb⟩ := hrel
    by_cases hlt : k < L.length
    · obtain ⟨x, hx⟩ : ∃ x, L[k] = x := ⟨_, rfl⟩
      obtain ⟨b, off, ha, hPA⟩ := (HP.out.resolve_left (by intro h; rw [h] at hlt; simp at hlt))
      subst ha
      have hT := TwoB.of2 (hPA.up hb.out) (HQ.out.up hb.out) hlt (show 0 < [y].length by simp) hx rfl
      have hxo := (HL.out x (by rw [← hx]; exact List.getElem_mem _)).up hN1 hb.out
      have hyo := HY.out.up hN1 hb.out
      have hsw := hb.out.size
      have hd : eqB x.p y.p = decide (x.p = y.p) := by rw [eqB_iff, Bool.eq_iff_iff]; simp [cmpP_ok.eq0]
      have HSM := Lib.hid (fun W (h : Below wr.heap.size wr W) => equal_any x.p y.p x.a x.a0 x.a1 y.a y.a0 y.a1 x.c x.c0 x.c1 y.c y.c0 y.c1 N W hxo.fit (Nat.le_trans hN1 (Nat.le_trans hsw h.size)) (hxo.lies.up (Nat.le_trans hN1 hsw) h) (hyo.lies.up (Nat.le_trans hN1 hsw) h))
      rw [hd] at HSM
      have HX := Lib.hid hx
      unfold PosV at HSM
      have hi4 := IntWalk.i64_in ((k : Int) + 1) (by omega)
      have t4 : decide ((k : Int) < (L.length : Int)) = true := by simp; omega
      clear hPA hxo hyo hsw hx hd
      go_upto_region 4 with (fail)
      refine wp_region_quiet (C := TwoB wr b (off + k * 5) w.heap.size (0 + 0 * 5) x y) (by kernel_rfl) (by kernel_rfl) (hT.up (Below.refl _ _).drew) ?_
      dsimp only
      iterate 5
        refine wpQuiet_val (v := ?_) (by rfl) ?_ ?_
        rotate_left
        · ((intro W hW; (try cases hW); go_simp); try with_reducible rfl)
        (try simp only [Act.put, List.setIfInBounds_toArray, List.set_cons_zero, List.set_cons_succ])
      refine wpQuiet_val (v := .bool (decide (x.p = y.p))) (by rfl) (fun W hW => ?_) ?_
      · go_simp
        exact (HSM.out W hW.b).mono fun e w' ⟨he, hb⟩ => ⟨he, hW.up hb⟩
      (try simp only [Act.put, List.setIfInBounds_toArray, List.set_cons_zero, List.set_cons_succ])
      refine wpQuiet_nil (fun W hW => ?_)
      have HBN := Lib.hid (below_step hb.out hW.b)
      clear hT hW HSM hb
      by_cases hxy : x.p = y.p
      · have t3 : decide (x.p = y.p) = true := by simpa using hxy
        rw [t3]
        have HD := Lib.hid (show decide (y.p ∈ L.map (·.p)) = true by
          rw [decide_eq_true_eq, List.mem_map]
          exact ⟨x, by rw [← HX.out]; exact List.getElem_mem _, hxy⟩)
        clear t3 hxy hall
        go_wp2
        go_ret
        exact ⟨by rw [HD.out]; rfl, HA.out.trans (HBN.out.mono HA.out.size)⟩
      · have t3 : decide (x.p = y.p) = false := by simpa using hxy
        rw [t3]
        have HA2 := Lib.hid (show ∀ j (h : j < L.length), j < k + 1 → (L[j]).p ≠ y.p from fun j h hj => by
          by_cases e : j = k
          · subst e; rw [HX.out]; exact hxy
          · exact hall.out j h (by omega))
        clear t3 hxy hall
        go_wp2
        go_roundw
        case rel => exact ⟨k + 1, by omega, by simp, HA2, HBN⟩
        case measure => simp [intOf]; omega
    · obtain rfl : k = L.length := by omega
      have HD := Lib.hid (show decide (y.p ∈ L.map (·.p)) = false by
        rw [decide_eq_false_iff_not, List.mem_map]
        rintro ⟨x, hx, e⟩
        obtain ⟨j, hj, rfl⟩ := List.mem_iff_getElem.1 hx
        exact hall.out j hj hj e)
      clear hall
      go_wp2
      go_ret
      exact ⟨by rw [HD.out]; rfl, HA.out.trans (hb.out.mono HA.out.size)⟩
end Go.Proofs.YtphhkfelpckilaaGreatDoor

namespace Go.Proofs.YtphhkfelpckilaaGreatDoor
open Go Go.RowKit

theorem PRs.mono {n m : Nat} {W : World} {a : Option Addr} {l : List PRaw} (h : PRs n W a l) (hm : n ≤ m) : PRs m W a l := by
  refine ⟨h.1, ?_⟩
  rcases h.2 with h | ⟨b, off, e, hb, hc⟩
  · exact .inl h
  · exact .inr ⟨b, off, e, Nat.lt_of_lt_of_le hb hm, hc⟩
theorem turn_mem {L T : List PosA} {n : Nat} (hlen : T.length = L.length) (h : ∀ i, i < T.length → T[i]? = L[(i + n) % L.length]?) (x : PosA) : x ∈ T ↔ x ∈ L := by
  constructor
  · intro hx
    obtain ⟨i, hi, rfl⟩ := List.mem_iff_getElem.1 hx
    have := h i hi
    rw [List.getElem?_eq_getElem hi] at this
    exact List.mem_of_getElem? this.symm
  · intro hx
    obtain ⟨j, hj, rfl⟩ := List.mem_iff_getElem.1 hx
    have h0 : 0 < L.length := by omega
    have hm := Nat.mod_lt n h0
    have hd := Nat.div_add_mod n L.length
    have hi := Nat.mod_lt (j + (L.length - n % L.length)) h0
    have e : ((j + (L.length - n % L.length)) % L.length + n) % L.length = j := by
      rw [Nat.mod_add_mod]
      have : j + (L.length - n % L.length) + n = j + L.length + L.length * (n / L.length) := by omega
      rw [this, Nat.add_mul_mod_self_left, Nat.add_mod_right, Nat.mod_eq_of_lt hj]
    have := h _ (by rw [hlen]; exact hi)
    rw [e, List.getElem?_eq_getElem hj] at this
    exact List.mem_of_getElem? this
theorem insP_len (x : PosS) : ∀ l : List PosS, (insP x l).length ≤ l.length + 1
  | [] => by simp [insP]
  | y :: l => by
    have ih := insP_len x l
    unfold insP
    split
    · simp
    · split
      · simp
      · simp only [List.length_cons]; omega
theorem sortS_len (l : List PosS) : (sortS l).length ≤ l.length := by
  induction l with
  | nil => exact Nat.le_refl _
  | cons a l ih =>
    have h : (insP a (sortS l)).length ≤ (sortS l).length + 1 := insP_len a _
    show (insP a (sortS l)).length ≤ _
    rw [List.length_cons]; omega
theorem sortS_same {l m : List PosS} (h : ∀ p, p ∈ l ↔ p ∈ m) : sortS l = sortS m := sortS_eq (sortS_srt l) (fun p => (sortS_mem l p).trans (h p))
theorem OwnPs.at0 {n : Nat} {W : World} {g cap : Nat} {L : List PosA} (h : OwnPs n W (.slice (some ⟨g, 0, none⟩) L.length cap) L) : PsAt W g 0 L := fun i c hi hc => by rw [Nat.zero_add]; exact h.cell hi hc
theorem PsAt.cells {W : World} {g : Nat} {L : List PosA} (h : PsAt W g 0 L) {i : Nat} (hi : i < L.length) {x : PosA} (hx : L[i] = x) :
    W.cell? ⟨g, i * 5, none⟩ = some (.slice x.a x.p.cells.length x.c) ∧ W.cell? ⟨g, i * 5 + 1, none⟩ = some (.slice x.a0 x.p.h0.length x.c0) ∧ W.cell? ⟨g, i * 5 + 2, none⟩ = some (.slice x.a1 x.p.h1.length x.c1) ∧ W.cell? ⟨g, i * 5 + 3, none⟩ = some (.int .i64 x.p.rights) ∧ W.cell? ⟨g, i * 5 + 4, none⟩ = some (.int .i64 x.p.side) := by
  subst hx
  have k := fun c hc => h i c hi hc
  simp only [Nat.zero_add] at k
  exact ⟨k 0 (by omega), k 1 (by omega), k 2 (by omega), k 3 (by omega), k 4 (by omega)⟩
theorem addRow {h : Nat} {W W7 : World} {v v' : Value} {L : List PosA} {y : PosA} (hh : h ≤ W.heap.size) (hrow : OwnPs h W v L)
    (hg : (W.alloc (.cells y.enc.toArray 32)).grownBy W7 v.ownBlock) (hr7 : W7.ownsRow h 32 5 v' (L.length + 1) (L.flatMap PosA.enc ++ y.enc)) : OwnPs h W7 v' (L ++ [y]) ∧ Below h W W7 := by
  have hA : Alters (fun b => some b = v.ownBlock) W W7 := (Alters.of_below (below_alloc (Below.refl _ W) _)).trans (Alters.of_grown hg)
  refine ⟨?_, hA.below hh (fun k hk => (World.ownsRow.lt hrow k hk.symm).1)⟩
  unfold OwnPs
  rw [List.length_append, List.flatMap_append]
  simpa using hr7
theorem flat_one (M : List PosA) : ∀ u ∈ M.flatMap PosA.enc, u.oneCell' = true := by
  intro u hu
  obtain ⟨x, _, hx⟩ := List.mem_flatMap.1 hu
  exact PosA.enc_one x u hx
/-- 'append(l, m...)', l the call's own. -/
theorem wpList_pushPs {w : World} {ops : Array Oper} {rest : List Oper} {o : Oper} {a : Act} {Q : Exit → Act → World → Prop} (hgd : o.guard = none) (s y : Operand)
    (ho : o.op = .call { callee := .builtin .append, args := #[s, y], argTypes := #[43, 43] }) (n E cap0 : Nat) (X : List PosA) (hs : a.eval s = .slice (some ⟨E, 0, none⟩) X.length cap0) (h : OwnPs n w (.slice (some ⟨E, 0, none⟩) X.length cap0) X) (hn : n ≤ w.heap.size)
    (b : Nat) (M : List PosA) (c : Nat) (hy : a.eval y = .slice (some ⟨b, 0, none⟩) M.length c) (hl : X.length + M.length ≤ 1000) (hx : PsAt w b 0 M)
    (hK : ∀ g cap w', OwnPs n w' (.slice (some ⟨g, 0, none⟩) (X ++ M).length cap) (X ++ M) → w.grownBy w' (some E) → wpList Tryz.prog ops Q rest (a.put o.dst (.slice (some ⟨g, 0, none⟩) (X.length + M.length) cap)) w') :
    wpList Tryz.prog ops Q (o :: rest) a w :=
  wpList_plain hgd fun K hK' => by
    obtain ⟨i0, hi, hz0, hz1, hz2⟩ := info_parts info_pos6
    obtain ⟨v', w', hr, h2, h3, h4, _⟩ := run_append_own_at (P := Tryz.prog) w n 43 o.type 32 i0 _ 5 88 Tryz.underlying43 hi hz0 hz1 hz2 rfl (by decide) (.slice (some ⟨E, 0, none⟩) X.length cap0) X.length (X.flatMap PosA.enc) h ⟨b, 0, none⟩ M.length c (M.flatMap PosA.enc) (fm_length PosA.enc_len M)
      (by intro j u hj
          have hj' : j < M.length * 5 := by have := (List.getElem?_eq_some_iff.1 hj).1; rwa [fm_length PosA.enc_len] at this
          have e : j = j / 5 * 5 + j % 5 := by omega
          have hd : j / 5 < M.length := by omega
          have hm : j % 5 < 5 := by omega
          have ea : (⟨b, 0, none⟩ : Addr).add j = ⟨b, j, none⟩ := by by_cases h : j = 0 <;> simp [Addr.add, h]
          have h5 := hx (j / 5) (j % 5) hd hm
          rw [Nat.zero_add, ← e] at h5
          have h6 := fm_get PosA.enc_len M (j / 5) (j % 5) hd hm
          rw [← e] at h6
          rw [ea, h5, ← h6, hj]) (flat_one M) (by unfold maxLen; omega) (by omega) hn
    obtain ⟨g, cap, hv⟩ : ∃ g cap, v' = .slice (some ⟨g, 0, none⟩) (X.length + M.length) cap := by
      rcases h2.2 with ⟨h0, _⟩ | ⟨g, cap, _, hv, _⟩
      · have := h4.1 h0
        cases this.1
      · exact ⟨g, cap, hv⟩
    subst hv
    have hO : OwnPs n w' (.slice (some ⟨g, 0, none⟩) (X ++ M).length cap) (X ++ M) := by
      unfold OwnPs
      rw [List.length_append, List.flatMap_append]
      exact h2
    have h9 := hK' _ _ (hK g cap w' hO h3)
    unfold Oper.wp
    simp [execOp, ho, resolve, invoke, builtin, hs, hy, hr, Result.andThen]
    exact h9
/-- A list is sorted, and the result held against one that is sorted and has the same positions. -/
theorem sorted_lists (X R : List PosA) (gx cx gs cs : Nat) (w8 W : World) (hb : Below w8.heap.size w8 W) (hX : PsAt w8 gx 0 X) (hR : PsAt w8 gs 0 R) (KX : ∀ x ∈ X, AOk w8.heap.size w8 x) (KR : ∀ x ∈ R, AOk w8.heap.size w8 x)
    (hlX : X.length ≤ 1000) (SX : ∀ x ∈ X, PosSmall x.p ∧ PosFit x.p) (hs : Srt (R.map (·.p))) (hm : ∀ p, p ∈ R.map (·.p) ↔ p ∈ X.map (·.p)) :
    Calls Tryz.prog 17 #[.slice (some ⟨gx, 0, none⟩) X.length cx] W fun e w' => ∃ (R1 : List PosA) (g1 c1 : Nat), e = .returned (.slice (some ⟨g1, 0, none⟩) R1.length c1) ∧ Below W.heap.size W w' ∧
      Hid (Calls Tryz.prog 16 #[.slice (some ⟨g1, 0, none⟩) R1.length c1, .slice (some ⟨gs, 0, none⟩) R.length cs] w' fun e w'' => e = .returned (.bool true) ∧ Below w'.heap.size w' w'') := by
  have hsz := hb.size
  refine (sort_any X gx 0 cx w8.heap.size W hsz (by omega) (fun x hx => (KX x hx).up (Nat.le_refl _) hb) (fun x hx => (SX x hx).1) (hX.up hb)).mono ?_
  rintro e w' ⟨R1, g1, c1, rfl, hRS, hRO, hRA, hb1⟩
  have hb2 := below_step hb hb1
  have hsz2 := hb2.size
  have he : R1.map (·.p) = R.map (·.p) := by
    rw [hRS]
    exact (sortS_eq hs hm).symm
  have hf : ∀ x ∈ R1, PosFit x.p := by
    intro x hx
    have h1 : x.p ∈ R1.map (·.p) := List.mem_map.2 ⟨x, hx, rfl⟩
    rw [hRS, sortS_mem] at h1
    obtain ⟨y, hy, e⟩ := List.mem_map.1 h1
    rw [← e]; exact (SX y hy).2
  have hl1 : R1.length ≤ 1000 := by
    have h1 := congrArg List.length hRS
    have h2 := sortS_len (X.map (·.p))
    simp at h1 h2; omega
  refine ⟨R1, g1, c1, rfl, hb1, Lib.hid ?_⟩
  have := rlists_any R1 R (some ⟨g1, 0, none⟩) (some ⟨gs, 0, none⟩) c1 cs w'.heap.size w' (Nat.le_refl _) (by omega) (fun x hx => ⟨hf x hx, (hRA x hx).in_⟩) (fun x hx => ((KR x hx).up (Nat.le_refl _) hb2).mono hsz2) (.inr ⟨g1, 0, rfl, hRO.at0⟩) (.inr ⟨gs, 0, rfl, hR.up hb2⟩)
  rw [he, decide_eq_true rfl] at this
  exact this
end Go.Proofs.YtphhkfelpckilaaGreatDoor
