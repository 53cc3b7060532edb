/-
  Valid of the package pos.
-/
import Derived.Test.YtepbmgbomdekaaaDEq
namespace Go.Proofs.Ytepbmgbomdekaaa
open Go Go.RowKit

def upToB (n m : Int) : Bool := decide (0 ≤ n) && decide (n ≤ m)
theorem upTo_any (n m : Int) (w : World) : Calls Try.prog 45 #[.int .i64 n, .int .i64 m] w fun e w' => e = .returned (.bool (upToB n m)) ∧ w' = w := by
  unfold upToB
  by_cases h : 0 ≤ n
  · have t : decide (0 ≤ n) = true := by simpa using h
    go_enter Try.func45, Try.ntmps45
    go_wp2
    go_ret
    exact ⟨by simp [h], rfl⟩
  · have t : decide (0 ≤ n) = false := by simpa using h
    rw [t]
    go_enter Try.func45, Try.ntmps45
    go_wp2
    go_ret
    exact ⟨by simp, rfl⟩

/-- The third cells of kinds: whether captured men are kept. -/
def Keeps (n : Nat) (W : World) (a : Option Addr) (ks : List Bool) : Prop :=
  ks = [] ∨ ∃ b off, a = some ⟨b, off, none⟩ ∧ b < n ∧ ∀ j, j < ks.length → W.cell? ⟨b, off + j * 3 + 2, none⟩ = some (.bool (ks[j]?.getD false))
theorem Keeps.below {n : Nat} {A B : World} {a : Option Addr} {ks : List Bool} (h : Keeps n A a ks) (hb : Below n A B) : Keeps n B a ks := by
  rcases h with h | ⟨b, off, e, hn, hc⟩
  · exact .inl h
  · exact .inr ⟨b, off, e, hn, fun j hj => (hb.cell (p := ⟨b, off + j * 3 + 2, none⟩) hn).trans (hc j hj)⟩
theorem Keeps.at_ {n : Nat} {W : World} {a : Option Addr} {ks : List Bool} (h : Keeps n W a ks) {j : Nat} (hj : j < ks.length) :
    ∃ b off, a = some ⟨b, off, none⟩ ∧ b < n ∧ W.cell? ⟨b, off + j * 3 + 2, none⟩ = some (.bool (ks[j]?.getD false)) := by
  rcases h with h | ⟨b, off, e, hn, hc⟩
  · subst h; simp at hj
  · exact ⟨b, off, e, hn, hc j hj⟩

def handOk (ks : List Bool) (h : List Int) (j : Nat) : Bool := upToB (h[j]?.getD 0) (if ks[j]?.getD false = true then 8 else 0)
def handB (ks : List Bool) (h : List Int) : Bool := decide (h.length = ks.length) && (List.range h.length).all (handOk ks h)
theorem handB_len {ks : List Bool} {h : List Int} (hn : ¬ h.length = ks.length) : handB ks h = false := by
  unfold handB; simp [hn]
theorem handB_no {ks : List Bool} {h : List Int} {j : Nat} (hj : j < h.length) (hn : handOk ks h j = false) : handB ks h = false := by
  unfold handB
  have : (List.range h.length).all (handOk ks h) = false := by
    rw [List.all_eq_false]
    exact ⟨j, by simpa using hj, by rw [hn]; simp⟩
  rw [this, Bool.and_false]
theorem handB_yes {ks : List Bool} {h : List Int} (hl : h.length = ks.length) (ha : ∀ j, j < h.length → handOk ks h j = true) : handB ks h = true := by
  unfold handB
  have : (List.range h.length).all (handOk ks h) = true := by
    rw [List.all_eq_true]
    intro j hj
    exact ha j (by simpa using hj)
  rw [this, Bool.and_true]
  simpa using hl

set_option maxRecDepth 100000 in
set_option maxHeartbeats 1000000 in
theorem validHand_any (ks : List Bool) (h : List Int) (ak ah : Option Addr) (ck ch N : Nat) (w : World) (hl : h.length ≤ maxLen) (hK : Keeps N w ak ks) (hH : Ints N w ah h) :
    Calls Try.prog 47 #[.slice ak ks.length ck, .slice ah h.length ch] w fun e w' => e = .returned (.bool (handB ks h)) ∧ w' = w := by
  unfold maxLen at hl
  by_cases hlen : h.length = ks.length
  · have HLN := Lib.hid hlen
    rw [← hlen]
    have HY := Lib.hid (fun ha => handB_yes (h := h) (ks := ks) hlen ha)
    have HNO := Lib.hid (fun j hj hn => handB_no (ks := ks) (h := h) (j := j) hj hn)
    clear hlen
    go_enter Try.func47, Try.ntmps47
    go_wp2_with fail
    go_loop [15] (fun i => ∃ k : Nat, k ≤ h.length ∧ i = .int .i64 k ∧ Hid (∀ j, j < k → handOk ks h j = true)) (fun i => h.length - (intOf i).toNat)
    case atStart => exact ⟨0, Nat.zero_le _, rfl, Lib.hid (fun j hj => absurd hj (Nat.not_lt_zero _))⟩
    case round =>
      obtain ⟨k, hk, rfl, HA⟩ := hrel
      by_cases hlt : k < h.length
      · obtain ⟨b, off, hab, hbN, hc⟩ := hH.at_ hlt
        subst hab
        obtain ⟨b2, off2, hab2, hbN2, hc2⟩ := hK.at_ (j := k) (by have := HLN.out; omega)
        subst hab2
        have hok : handOk ks h k = upToB (h[k]?.getD 0) (if ks[k]?.getD false = true then 8 else 0) := rfl
        generalize h[k]?.getD 0 = x at hc hok
        generalize ks[k]?.getD false = kp at hc2 hok
        have HU8 := Lib.hid (upTo_any x 8 w)
        have HU0 := Lib.hid (upTo_any x 0 w)
        clear hH hK
        cases kp with
        | true =>
          rw [if_pos rfl] at hok
          cases hu : upToB x 8 with
          | true =>
            rw [hu] at hok HU8
            have HOK := Lib.hid hok
            clear hu hok HU0
            go_wp2_with (go_at_call 45; refine HU8.out.mono ?_; rintro e w' ⟨rfl, rfl⟩)
            go_round
            case rel => exact ⟨k + 1, by omega, by simp, Lib.hid (fun j hj => by
              by_cases e : j = k
              · rw [e]; exact HOK.out
              · exact HA.out j (by omega))⟩
            case measure => simp [intOf]; omega
          | false =>
            rw [hu] at hok HU8
            have HOK := Lib.hid (HNO.out k hlt hok)
            clear hu hok HU0
            go_wp2_with (go_at_call 45; refine HU8.out.mono ?_; rintro e w' ⟨rfl, rfl⟩)
            go_ret
            exact ⟨by rw [HOK.out]; rfl, rfl⟩
        | false =>
          rw [if_neg (by simp)] at hok
          cases hu : upToB x 0 with
          | true =>
            rw [hu] at hok HU0
            have HOK := Lib.hid hok
            clear hu hok HU8
            go_wp2_with (go_at_call 45; refine HU0.out.mono ?_; rintro e w' ⟨rfl, rfl⟩)
            go_round
            case rel => exact ⟨k + 1, by omega, by simp, Lib.hid (fun j hj => by
              by_cases e : j = k
              · rw [e]; exact HOK.out
              · exact HA.out j (by omega))⟩
            case measure => simp [intOf]; omega
          | false =>
            rw [hu] at hok HU0
            have HOK := Lib.hid (HNO.out k hlt hok)
            clear hu hok HU8
            go_wp2_with (go_at_call 45; refine HU0.out.mono ?_; rintro e w' ⟨rfl, rfl⟩)
            go_ret
            exact ⟨by rw [HOK.out]; rfl, rfl⟩
      · obtain rfl : k = h.length := by omega
        have HO := Lib.hid (HY.out HA.out)
        clear hH hK
        go_wp2
        go_ret
        exact ⟨by rw [HO.out]; rfl, rfl⟩
  · have HO := Lib.hid (handB_len hlen)
    have hne : ((h.length : Int) != (ks.length : Int)) = true := by simp; omega
    have hne2 : decide ((h.length : Int) = (ks.length : Int)) = false := by simp; omega
    clear hH hK hlen
    go_enter Try.func47, Try.ntmps47
    go_wp2
    go_ret
    exact ⟨by rw [HO.out]; rfl, rfl⟩

/-- A number that is no content. -/
theorem outside_any (x : Int) (nk g : Nat) (ak : Option Addr) (ck : Nat) (w : World) (hnk : nk ≤ 1000) (hk : w.cell? ⟨g, 3, none⟩ = some (.slice ak nk ck)) :
    Calls Try.prog 44 #[.int .i64 x, .pointer (some ⟨g, 0, none⟩)] w fun e w' => e = .returned (.bool (!upToB x (2 * nk))) ∧ w' = w := by
  have HU := Lib.hid (upTo_any x (2 * (nk : Int)) w)
  have hg := World.block_lt_of_cell? _ _ hk
  generalize upToB x (2 * (nk : Int)) = u at *
  go_enter Try.func44, Try.ntmps44
  go_wp2_with (go_at_call 45; refine HU.out.mono ?_; rintro e w' ⟨rfl, rfl⟩)
  go_ret
  exact ⟨rfl, rfl⟩
def allIn (l : List Int) (m : Int) : Bool := l.all fun x => upToB x m
def IxIs (l : List Int) (m : Int) (w : World) (e : Ending) (w' : World) : Prop := ∃ r : Int, e = .returned (.int .i64 r) ∧ -1 ≤ r ∧ decide (0 ≤ r) = !allIn l m ∧ w' = w
set_option maxRecDepth 100000 in
set_option maxHeartbeats 1000000 in
theorem ixf_any (l : List Int) (a : Option Addr) (ct N nk g : Nat) (ak : Option Addr) (ck : Nat) (w : World) (hl : l.length ≤ maxLen) (hnk : nk ≤ 1000) (hk : w.cell? ⟨g, 3, none⟩ = some (.slice ak nk ck)) (hI : Ints N w a l) :
    Calls Try.prog 50 #[.slice a l.length ct, .func (.func 44) #[] #[.pointer (some ⟨g, 0, none⟩)]] w (IxIs l (2 * nk) w) := by
  unfold maxLen at hl
  have HO := Lib.hid (fun x => outside_any x nk g ak ck w hnk hk)
  clear hk
  go_enter Try.func50, Try.ntmps50
  go_wp2_with fail
  go_loop [8] (fun i => ∃ k : Nat, k ≤ l.length ∧ i = .int .i64 k ∧ Hid (∀ j, j < k → upToB (l[j]?.getD 0) (2 * nk) = true)) (fun i => l.length - (intOf i).toNat)
  case atStart => exact ⟨0, Nat.zero_le _, rfl, Lib.hid (fun j hj => absurd hj (Nat.not_lt_zero _))⟩
  case round =>
    obtain ⟨k, hk, rfl, HA⟩ := hrel
    by_cases hlt : k < l.length
    · obtain ⟨b, off, hab, hbN, hc⟩ := hI.at_ hlt
      subst hab
      have hmem : l[k]?.getD 0 ∈ l := by rw [List.getElem?_eq_getElem hlt, Option.getD_some]; exact List.getElem_mem hlt
      generalize hx : l[k]?.getD 0 = x at hc hmem
      have HX := Lib.hid hx
      have HM := Lib.hid hmem
      have HC := Lib.hid (HO.out x)
      clear hx hmem hI
      cases hu : upToB x (2 * (nk : Int)) with
      | true =>
        rw [hu] at HC
        have HU := Lib.hid hu
        clear hu
        go_wp2_with fail
        refine HC.out.mono ?_
        rintro e w' ⟨rfl, rfl⟩
        go_wp2
        go_round
        case rel => exact ⟨k + 1, by omega, by simp, Lib.hid (fun j hj => by
          by_cases e : j = k
          · rw [e, HX.out]; exact HU.out
          · exact HA.out j (by omega))⟩
        case measure => simp [intOf]; omega
      | false =>
        rw [hu] at HC
        have HF := Lib.hid (show allIn l (2 * (nk : Int)) = false by
          unfold allIn
          rw [List.all_eq_false]
          exact ⟨x, HM.out, by rw [hu]; simp⟩)
        clear hu
        go_wp2_with fail
        refine HC.out.mono ?_
        rintro e w' ⟨rfl, rfl⟩
        go_wp2
        go_ret
        exact ⟨k, rfl, by omega, by rw [HF.out]; simp, rfl⟩
    · have HF := Lib.hid (show allIn l (2 * (nk : Int)) = true by
        unfold allIn
        rw [List.all_eq_true]
        intro x hx
        obtain ⟨i, hi⟩ := List.getElem?_of_mem hx
        have := HA.out i (by have := (List.getElem?_eq_some_iff.1 hi).1; omega)
        rw [hi] at this
        simpa using this)
      clear hI
      go_wp2
      go_ret
      exact ⟨-1, rfl, by omega, by rw [HF.out]; simp, rfl⟩
theorem conf_any (l : List Int) (a : Option Addr) (ct N nk g : Nat) (ak : Option Addr) (ck : Nat) (w : World) (hl : l.length ≤ maxLen) (hnk : nk ≤ 1000) (hk : w.cell? ⟨g, 3, none⟩ = some (.slice ak nk ck)) (hI : Ints N w a l) :
    Calls Try.prog 46 #[.slice a l.length ct, .func (.func 44) #[] #[.pointer (some ⟨g, 0, none⟩)]] w fun e w' => e = .returned (.bool (!allIn l (2 * nk))) ∧ w' = w := by
  have HI := Lib.hid (ixf_any l a ct N nk g ak ck w hl hnk hk hI)
  clear hI hk
  go_enter Try.func46, Try.ntmps46
  go_wp2_with fail
  refine HI.out.mono ?_
  rintro e w' ⟨r, rfl, h1, h2, rfl⟩
  have H2 := Lib.hid h2
  clear h2
  by_cases h0 : 0 ≤ r
  · have t1 : decide (0 ≤ r) = true := by simpa using h0
    have HO := Lib.hid (H2.out.symm.trans t1)
    go_wp2
    go_ret
    exact ⟨by rw [HO.out]; rfl, rfl⟩
  · have t1 : decide (0 ≤ r) = false := by simpa using h0
    have HO := Lib.hid (H2.out.symm.trans t1)
    go_wp2
    go_ret
    exact ⟨by rw [HO.out]; rfl, rfl⟩
end Go.Proofs.Ytepbmgbomdekaaa
