/-
  Of the reference: Same, Lists.
-/
import Derived.Test.YtphhkfelpckilaaGreatDoorDRefC
namespace Go.Proofs.YtphhkfelpckilaaGreatDoor
open Go Go.RowKit Go.Lib Go.Sort
attribute [local irreducible] Go.wpQuiet

set_option maxRecDepth 100000 in
set_option maxHeartbeats 2000000 in
theorem rsame_any (x y : PosA) (N : Nat) (w : World) (hx : AOk N w x) (hy : AOk N w y) (hN : N ≤ w.heap.size) :
    Calls Tryz.prog 36 #[x.val, y.val] w fun e w' => e = .returned (.bool (decide (x.p = y.p))) ∧ Below w.heap.size w w' := by
  have hA : Below w.heap.size w ((w.alloc (.cells x.enc.toArray 32)).alloc (.cells y.enc.toArray 32)) := below_alloc (below_alloc (Below.refl _ _) _) _
  have HC := Lib.hid (rcompare_any x y N _ (hx.up hN hA) (hy.up hN hA) (Nat.le_trans hN hA.size))
  have hd : decide (x.p = y.p) = decide (cmpP x.p y.p = 0) := by rw [Bool.eq_iff_iff]; simp [cmpP_ok.eq0]
  rw [hd]
  clear hd
  unfold PosA.enc at HC
  unfold PosA.enc at hA
  unfold PosA.val PosV at HC ⊢
  go_enter Tryz.func36, Tryz.ntmps36
  go_wp2_with fail
  refine HC.out.mono ?_
  rintro e w' ⟨rfl, hb⟩
  have hbE := below_step hA hb
  generalize hze : cmpP x.p y.p = z
  have HZE := Lib.hid hze
  clear hze
  have hz : (z == 0) = decide (z = 0) := by rw [Bool.eq_iff_iff]; simp
  clear hA hb HC
  go_wp2
  go_ret
  exact ⟨by rw [HZE.out, ← hz]; rfl, hbE⟩

/-- A list of positions lies there, or there is none. -/
def PsIn (W : World) (a : Option Addr) (L : List PosA) : Prop := L = [] ∨ ∃ b off, a = some ⟨b, off, none⟩ ∧ PsAt W b off L
theorem PsIn.up {W W' : World} {a : Option Addr} {L : List PosA} (h : PsIn W a L) (hb : Below W.heap.size W W') : PsIn W' a L := by
  rcases h with h | ⟨b, off, e, h⟩
  · exact .inl h
  · exact .inr ⟨b, off, e, h.up hb⟩
theorem OwnPs.in_ {n : Nat} {W : World} {g cap : Nat} {L : List PosA} (h : OwnPs n W (.slice (some ⟨g, 0, none⟩) L.length cap) L) : PsAt W g 0 L := fun i c hi hc => by rw [Nat.zero_add]; exact h.cell hi hc
theorem TwoB.of2 {w : World} {g off g2 off2 : Nat} {L M : List PosA} {x y : PosA} {h k : Nat} (hp : PsAt w g off L) (hq : PsAt w g2 off2 M) (hh : h < L.length) (hk : k < M.length) (hx : L[h] = x) (hy : M[k] = y) : TwoB w g (off + h * 5) g2 (off2 + k * 5) x y w := by
  have cx := fun c (hc : c < 5) => hp h c hh hc
  have cy := fun c (hc : c < 5) => hq k c hk hc
  rw [hx] at cx
  rw [hy] at cy
  exact ⟨Below.refl _ _, cx 0 (by omega), cx 1 (by omega), cx 2 (by omega), cx 3 (by omega), cx 4 (by omega), cy 0 (by omega), cy 1 (by omega), cy 2 (by omega), cy 3 (by omega), cy 4 (by omega)⟩

set_option maxRecDepth 100000 in
set_option maxHeartbeats 4000000 in
theorem rlists_any (L M : List PosA) (a a2 : Option Addr) (c c2 N : Nat) (w : World) (hN : N ≤ w.heap.size) (hl : L.length ≤ 1000000000000) (hL : ∀ x ∈ L, AOk N w x) (hM : ∀ x ∈ M, AOk N w x) (hP : PsIn w a L) (hQ : PsIn w a2 M) :
    Calls Tryz.prog 16 #[.slice a L.length c, .slice a2 M.length c2] w fun e w' => e = .returned (.bool (decide (L.map (·.p) = M.map (·.p)))) ∧ Below w.heap.size w w' := by
  by_cases hlen : L.length = M.length
  · have HL := Lib.hid hL
    have HM := Lib.hid hM
    have HP := Lib.hid hP
    have HQ := Lib.hid hQ
    clear hL hM hP hQ
    go_enter Tryz.func16, Tryz.ntmps16
    rw [← hlen]
    have HLEN := Lib.hid hlen
    clear hlen
    go_wp2
    go_loopw [5] (fun i wr => ∃ k : Nat, k ≤ L.length ∧ i = .int .i64 k ∧ Hid (∀ j (h : j < L.length) (h2 : j < M.length), j < k → (L[j]).p = (M[j]).p) ∧ Hid (Below w.heap.size w wr)) (fun i _ => L.length - (intOf i).toNat)
    case atStart => exact ⟨0, Nat.zero_le _, rfl, Lib.hid (fun j _ _ h => absurd h (Nat.not_lt_zero _)), Lib.hid (Below.refl _ _)⟩
    case round =>
      obtain ⟨k, hk, rfl, hall, hb⟩ := hrel
      by_cases hlt : k < L.length
      · have hlt2 : k < M.length := by have := HLEN.out; omega
        obtain ⟨x, hx⟩ : ∃ x, L[k] = x := ⟨_, rfl⟩
        obtain ⟨y, hy⟩ : ∃ y, M[k] = y := ⟨_, rfl⟩
        obtain ⟨b, off, ha, hPA⟩ := (HP.out.resolve_left (by intro h; rw [h] at hlt; simp at hlt))
        obtain ⟨b2, off2, ha2, hQA⟩ := (HQ.out.resolve_left (by intro h; rw [h] at hlt2; simp at hlt2))
        subst ha
        subst ha2
        have hT := TwoB.of2 (hPA.up hb.out) (hQA.up hb.out) hlt hlt2 hx hy
        have hxo := (HL.out x (by rw [← hx]; exact List.getElem_mem _)).up hN hb.out
        have hyo := (HM.out y (by rw [← hy]; exact List.getElem_mem _)).up hN hb.out
        have hsw := hb.out.size
        have HSM := Lib.hid (fun W (h : Below wr.heap.size wr W) => rsame_any x y N W (hxo.up (Nat.le_trans hN hsw) h) (hyo.up (Nat.le_trans hN hsw) h) (Nat.le_trans hN (Nat.le_trans hsw h.size)))
        have HX := Lib.hid hx
        have HY := Lib.hid hy
        have HLT2 := Lib.hid hlt2
        unfold PosA.val PosV at HSM
        have hi4 := IntWalk.i64_in ((k : Int) + 1) (by omega)
        have t4 : decide ((k : Int) < (L.length : Int)) = true := by simp; omega
        clear hPA hQA hxo hyo hsw hx hy
        go_upto_region 6 with (fail)
        refine wp_region_quiet (C := TwoB wr b (off + k * 5) b2 (off2 + k * 5) x y) (by kernel_rfl) (by kernel_rfl) (hT.up (Below.refl _ _).drew) ?_
        dsimp only
        iterate 8
          refine wpQuiet_val (v := ?_) (by rfl) ?_ ?_
          rotate_left
          · ((intro W hW; (try cases hW); go_simp); try with_reducible rfl)
          (try simp only [Act.put, List.setIfInBounds_toArray, List.set_cons_zero, List.set_cons_succ])
        refine wpQuiet_val (v := .bool (decide (x.p = y.p))) (by rfl) (fun W hW => ?_) ?_
        · go_simp
          exact (HSM.out W hW.b).mono fun e w' ⟨he, hb⟩ => ⟨he, hW.up hb⟩
        (try simp only [Act.put, List.setIfInBounds_toArray, List.set_cons_zero, List.set_cons_succ])
        refine wpQuiet_val (v := ?_) (by rfl) ?_ ?_
        rotate_left
        · ((intro W hW; (try cases hW); go_simp); try with_reducible rfl)
        (try simp only [Act.put, List.setIfInBounds_toArray, List.set_cons_zero, List.set_cons_succ])
        refine wpQuiet_nil (fun W hW => ?_)
        have HBN := Lib.hid (below_step hb.out hW.b)
        clear hT hW HSM hb
        by_cases hxy : x.p = y.p
        · have t3 : decide (x.p = y.p) = true := by simpa using hxy
          rw [t3]
          have HA2 := Lib.hid (show ∀ j (h : j < L.length) (h2 : j < M.length), j < k + 1 → (L[j]).p = (M[j]).p from fun j h h2 hj => by
            by_cases e : j = k
            · subst e; rw [HX.out, HY.out]; exact hxy
            · exact hall.out j h h2 (by omega))
          clear t3 hxy hall
          go_wp2
          go_roundw
          case rel => exact ⟨k + 1, by omega, by simp, HA2, HBN⟩
          case measure => simp [intOf]; omega
        · have t3 : decide (x.p = y.p) = false := by simpa using hxy
          rw [t3]
          have HD := Lib.hid (show decide (L.map (·.p) = M.map (·.p)) = false by
            rw [decide_eq_false_iff_not]
            intro e
            have h1 : (L.map (·.p))[k]? = (M.map (·.p))[k]? := by rw [e]
            have h2 := HLT2.out
            rw [List.getElem?_map, List.getElem?_map, List.getElem?_eq_getElem hlt, List.getElem?_eq_getElem h2, HX.out, HY.out] at h1
            exact hxy (by simpa using h1))
          clear t3 hxy hall
          go_wp2
          go_ret
          exact ⟨by rw [HD.out]; rfl, HBN.out⟩
      · obtain rfl : k = L.length := by omega
        have HD := Lib.hid (show decide (L.map (·.p) = M.map (·.p)) = true by
          rw [decide_eq_true_eq]
          apply List.ext_getElem
          · simpa using HLEN.out
          · intro j h1 h2
            have := hall.out j (by simpa using h1) (by simpa using h2) (by simpa using h1)
            simpa using this)
        clear hall
        go_wp2
        go_ret
        exact ⟨by rw [HD.out]; rfl, hb.out⟩
  · have HO := Lib.hid (show decide (L.map (·.p) = M.map (·.p)) = false by
      rw [decide_eq_false_iff_not]
      intro e
      have := congrArg List.length e
      exact hlen (by simpa using this))
    have hne : ((L.length : Int) != (M.length : Int)) = true := by simp; omega
    have hne2 : decide ((L.length : Int) = (M.length : Int)) = false := by simp; omega
    clear hL hM hP hQ
    go_enter Tryz.func16, Tryz.ntmps16
    go_wp2
    go_ret
    exact ⟨by rw [HO.out]; rfl, Below.refl _ _⟩
end Go.Proofs.YtphhkfelpckilaaGreatDoor
