/-
  The iterator that walk of the package board makes.
-/
import Derived.Test.YtcpjkilnbhfpjaaDoorSteps
import Derived.Test.YtcpjkilnbhfpjaaDoorLib
namespace Go.Proofs.YtcpjkilnbhfpjaaDoor
open Go Go.RowKit Go.Shelf

attribute [local go_sem] Oper.semAt_some

/-- The cells along the direction d from c on: pre have been passed, the last one of them is fr. -/
def lineTo (B : Brd) (d c : Int) : Nat → List Int → Int → List Int
  | 0, pre, _ => pre
  | k + 1, pre, fr => if nextS B d fr < 0 ∨ nextS B d fr = c ∨ nextS B d fr ∈ pre then pre else lineTo B d c k (pre ++ [nextS B d fr]) (nextS B d fr)
def lineS (B : Brd) (d c : Int) : List Int := lineTo B d c 64 [] c

/-- Different numbers from 0 on below n: at most n. -/
theorem pigeon : ∀ (n : Nat) (l : List Int), l.Nodup → (∀ x ∈ l, 0 ≤ x ∧ x < n) → l.length ≤ n
  | 0, l, _, h => by
    cases l with
    | nil => simp
    | cons x l => have := h x (by simp); omega
  | n + 1, l, hn, h => by
    by_cases hm : (n : Int) ∈ l
    · have h1 := pigeon n (l.erase (n : Int)) (hn.erase _) (fun x hx => by
        have hx' := List.mem_of_mem_erase hx
        have hne : x ≠ n := fun e => by subst e; exact ((List.Nodup.mem_erase_iff hn).1 hx).1 rfl
        have := h x hx'; omega)
      rw [List.length_erase_of_mem hm] at h1; omega
    · have h1 := pigeon n l hn (fun x hx => by
        have hne : x ≠ n := fun e => hm (e ▸ hx)
        have := h x hx; omega)
      omega

set_option maxHeartbeats 400000 in
theorem walk_any (x y z : Value) (d c : Int) (w : World) :
    Calls Tryd.prog 36 #[.agg #[x, y, z], .int .i64 d, .int .i64 c] w fun e w' => e = .returned (.func (.func 53) #[] #[.pointer (some ⟨w.heap.size + 1 + 1, 0, none⟩), .pointer (some ⟨w.heap.size, 0, none⟩), .pointer (some ⟨w.heap.size + 1, 0, none⟩)]) ∧
      ((w.alloc (.cells #[x, y, z] 31)).alloc (.cells #[.int .i64 d] 3)).alloc (.cells #[.int .i64 c] 3) = w' := by
  go_enter Tryd.func36, Tryd.ntmps36
  go_wp2
  go_ret
  exact ⟨rfl, rfl⟩

/-- The 64 marks at block f: those of the numbers in L are set. -/
def Marks (f : Nat) (W : World) (L : List Int) : Prop := ∀ j : Nat, j < 64 → W.cell? ⟨f, j, none⟩ = some (.bool (decide ((j : Int) ∈ L))) ∧ W.frozen? ⟨f, j, none⟩ = false

theorem Marks.set {f : Nat} {W : World} {L : List Int} (h : Marks f W L) {m : Nat} (hm : m < 64) : Marks f (W.setCell ⟨f, m, none⟩ (.bool true)) (L ++ [(m : Int)]) := by
  intro j hj
  refine ⟨?_, by rw [World.frozen?_setCell]; exact (h j hj).2⟩
  by_cases e : j = m
  · subst e
    rw [World.cell?_setCell_same' _ _ _ (by rw [(h j hj).1]; rfl)]
    simp
  · rw [World.cell?_setCell_other _ _ _ _ (fun e' => e (by cases e'; rfl)), (h j hj).1]
    have : ¬ (j : Int) = (m : Int) := by omega
    simp [this]

theorem Marks.same {f : Nat} {W W' : World} {L : List Int} (h : Marks f W L) (hk : W'.heap[f]? = W.heap[f]?) : Marks f W' L := fun j hj =>
  ⟨(World.cell?_of_block (a := ⟨f, j, none⟩) hk).trans (h j hj).1, (World.frozen?_of_block (a := ⟨f, j, none⟩) hk).trans (h j hj).2⟩

theorem countP_lt {p q : Nat → Bool} : ∀ (l : List Nat), (∀ x ∈ l, q x = true → p x = true) → (∃ x ∈ l, p x = true ∧ q x = false) → l.countP q < l.countP p
  | [], _, h => by obtain ⟨x, hx, _⟩ := h; simp at hx
  | y :: l, h1, h2 => by
    have hle : l.countP q ≤ l.countP p := List.countP_mono_left fun x hx h => h1 x (by simp [hx]) h
    obtain ⟨x, hx, hp, hq⟩ := h2
    rw [List.countP_cons, List.countP_cons]
    by_cases e : x = y
    · subst e; rw [if_pos hp, if_neg (by simp [hq])]; omega
    · have := countP_lt l (fun z hz h => h1 z (by simp [hz]) h) ⟨x, by simpa [e] using hx, hp, hq⟩
      by_cases hqy : q y = true
      · rw [if_pos hqy, if_pos (h1 y (by simp) hqy)]; omega
      · rw [if_neg hqy]; omega

open Classical in
/-- How many marks are not set. -/
noncomputable def unmarked (f : Nat) (W : World) : Nat := (List.range 64).countP fun j => decide (W.cell? ⟨f, j, none⟩ = some (.bool false))

open Classical in
theorem unmarked_lt {f : Nat} {W W' : World} {L : List Int} {m : Nat} (h : Marks f W L) (h' : Marks f W' (L ++ [(m : Int)])) (hm : m < 64) (hn : (m : Int) ∉ L) : unmarked f W' < unmarked f W := by
  refine countP_lt _ (fun j hj hq => ?_) ⟨m, by simpa using hm, ?_, ?_⟩
  · have hj' : j < 64 := by simpa using hj
    have hq' := of_decide_eq_true hq
    rw [(h' j hj').1] at hq'
    have : (j : Int) ∉ L := by
      intro hL
      simp [hL] at hq'
    rw [(h j hj').1]; simp [this]
  · rw [(h m hm).1]; simp [hn]
  · rw [(h' m hm).1]; simp

theorem unmarked_eq {f : Nat} {W W' : World} {L : List Int} (h : Marks f W L) (h' : Marks f W' L) : unmarked f W = unmarked f W' := by
  unfold unmarked
  refine List.countP_congr fun j hj => ?_
  have hj' : j < 64 := by simpa using hj
  rw [(h j hj').1, (h' j hj').1]

/-- What a round of the caller must keep. -/
def walkP (N Bc Bb Bd k : Nat) : Prop := k < N ∨ k = Bc ∨ k = Bb ∨ k = Bd

theorem lineTo_stop (B : Brd) (d c : Int) (k : Nat) (pre : List Int) (fr : Int) (h : nextS B d fr < 0 ∨ nextS B d fr = c ∨ nextS B d fr ∈ pre) : lineTo B d c k pre fr = pre := by
  cases k with
  | zero => rfl
  | succ k => unfold lineTo; rw [if_pos h]
theorem lineTo_go (B : Brd) (d c : Int) (k : Nat) (pre : List Int) (fr : Int) (h : ¬ (nextS B d fr < 0 ∨ nextS B d fr = c ∨ nextS B d fr ∈ pre)) : lineTo B d c (k + 1) pre fr = lineTo B d c k (pre ++ [nextS B d fr]) (nextS B d fr) := by
  rw [lineTo, if_neg h]

set_option maxRecDepth 100000 in
set_option maxHeartbeats 2000000 in
theorem walk1_in (n : Nat) (B : Brd) (hB : B.Ok) (an at_ : Option Addr) (cn ct : Nat) (c dd : Int) (l Bc Bb Bd N : Nat) (W : World) (J : Nat → List Int → World → Prop)
    (hJ : ∀ f pre X Y row, J f pre X → X.grownBy Y row → (row = none ∨ row = some f) → W.heap.size ≤ f → J f pre Y)
    (hY : ∀ f pre x W1, J f pre W1 → W.heap.size ≤ f → f < W1.heap.size → pre.length < 64 → YieldAt Fence.wide n Tryd.prog l #[.int .i64 x] W1 fun e W' =>
      e = .returned (.bool true) ∧ J f (pre ++ [x]) W' ∧ Keep (fun k => walkP N Bc Bb Bd k ∨ k = f) W1 W')
    (hNW : N ≤ W.heap.size) (hBc : Bc < W.heap.size) (hBb : Bb < W.heap.size) (hBd : Bd < W.heap.size)
    (hb0 : W.cell? ⟨Bb, 0, none⟩ = some (.int .i64 B.cells)) (hb1 : W.cell? ⟨Bb, 1, none⟩ = some (.slice an B.next.length cn)) (hb2 : W.cell? ⟨Bb, 2, none⟩ = some (.slice at_ B.turn.length ct))
    (hc0 : W.cell? ⟨Bc, 0, none⟩ = some (.int .i64 c)) (hd0 : W.cell? ⟨Bd, 0, none⟩ = some (.int .i64 dd)) (hH : Held N W an at_ B) (h0 : ∀ o, J W.heap.size [] (W.alloc o)) :
    CallsIn Fence.wide (n + 1) Tryd.prog 53 #[.func (.yield l) #[] #[], .pointer (some ⟨Bc, 0, none⟩), .pointer (some ⟨Bb, 0, none⟩), .pointer (some ⟨Bd, 0, none⟩)] W fun e W' => (∃ v, e = .returned v) ∧ ∃ f, W.heap.size ≤ f ∧ J f (lineS B dd c) W' := by
  have hhi := hB.hi
  have hlo := hB.lo
  refine callsIn_of_wp Tryd.func53 rfl trivial ?_ rfl
  simp only [Tryd.ntmps53, List.size_toArray, List.length_cons, List.length_nil, Nat.reduceAdd, Nat.reduceSub, Array.replicate_succ, Array.replicate_zero, List.push_toArray, List.append_toArray, List.nil_append, List.cons_append]
  gi_wp2_with fail
  refine wpIn_wide.2 ?_
  generalize hg : W.alloc (Obj.cells _ 76) = W1
  have hW1 : W1 = W.alloc (Obj.cells (Array.replicate 64 (.bool false)) 76) := by rw [← hg]; rfl
  clear hg
  have hM1 : Marks W.heap.size W1 [] := by
    rw [hW1]; intro j hj
    exact ⟨cell_new_at _ _ _ _ _ _ rfl (by simp [hj]), by simp⟩
  have hJ1 : J W.heap.size [] W1 := by rw [hW1]; exact h0 _
  have hbW1 : Below W.heap.size W W1 := by rw [hW1]; exact (Below.refl _ _).alloc (Nat.le_refl _) _
  have hs1 : W1.heap.size = W.heap.size + 1 := by rw [hW1]; simp
  clear hW1
  have c0 := cell_keep hbW1 hc0
  have b0 := cell_keep hbW1 hb0
  have b1 := cell_keep hbW1 hb1
  have b2 := cell_keep hbW1 hb2
  have d0 := cell_keep hbW1 hd0
  have hH1 := hH.up hNW hbW1
  go_region_held3 (fun w' => w'.cell? ⟨Bc, 0, none⟩ = some (.int .i64 c) ∧ w'.cell? ⟨Bb, 0, none⟩ = some (.int .i64 B.cells) ∧ w'.cell? ⟨Bb, 1, none⟩ = some (.slice an B.next.length cn) ∧ w'.cell? ⟨Bb, 2, none⟩ = some (.slice at_ B.turn.length ct) ∧ w'.cell? ⟨Bd, 0, none⟩ = some (.int .i64 dd) ∧ Below W1.heap.size W1 w')
    (first
      | (go_keep; done)
      | ((try go_split_ands)
         refine ⟨?_, ?_, ?_, ?_, ?_, ?_⟩
         · first | exact cell_keep (by assumption) (by assumption) | (go_keep; done)
         · first | exact cell_keep (by assumption) (by assumption) | (go_keep; done)
         · first | exact cell_keep (by assumption) (by assumption) | (go_keep; done)
         · first | exact cell_keep (by assumption) (by assumption) | (go_keep; done)
         · first | exact cell_keep (by assumption) (by assumption) | (go_keep; done)
         · (repeat (first | exact Below.refl _ _ | assumption | refine below_alloc ?_ _ | refine Below.drew ?_ | refine below_drewN_ ?_ _ | refine below_step ?_ (by assumption)))))
    (first | (go_at_call 33; refine (next_any B hB an at_ cn ct _ _ N _ (hH1.up (by omega) (by (repeat (first | exact Below.refl _ _ | assumption | refine below_alloc ?_ _ | refine Below.drew ?_ | refine below_drewN_ ?_ _ | refine below_step ?_ (by assumption)))))).mono ?_; rintro e w' ⟨rfl, hbb⟩))
  have hbw : Below W1.heap.size W1 w' := by (repeat (first | exact Below.refl _ _ | assumption | refine below_alloc ?_ _ | refine Below.drew ?_ | refine below_drewN_ ?_ _ | refine below_step ?_ (by assumption)))
  have hbW2 := below_step hbW1 hbw
  have hM2 : Marks W.heap.size w' [] := hM1.same (hbw.block _ (by omega))
  have hJ2 : J W.heap.size [] w' := hJ _ _ _ _ none hJ1 (below_grown hbw) (.inl rfl) (Nat.le_refl _)
  have hs2 := hbw.size
  rename_i hall
  clear hall hbb
  gi_wp2_with fail
  gi_loopw [6, 7] (fun x y wr => ∃ (k : Nat) (pre mk : List Int) (fr : Int), x = .int .i64 fr ∧ y = .int .i64 (nextS B dd fr) ∧ k + pre.length = 64 ∧ lineTo B dd c k pre fr = lineS B dd c ∧ pre.Nodup ∧ c ∉ pre ∧ (∀ v ∈ pre, 0 ≤ v ∧ v < B.cells) ∧ (pre ≠ [] → 0 ≤ c ∧ c < B.cells) ∧
      c :: pre = mk ++ [fr] ∧ Marks W.heap.size wr mk ∧ J W.heap.size pre wr ∧ Keep (walkP N Bc Bb Bd) W wr ∧ W.heap.size < wr.heap.size)
    (fun _ _ wr => unmarked W.heap.size wr)
  case atStart => exact ⟨64, [], [], c, rfl, rfl, rfl, rfl, List.nodup_nil, by simp, by simp, by simp, rfl, hM2, hJ2, Below.keep hbW2 (fun k hk => by unfold walkP at hk; omega), by omega⟩
  case round =>
    obtain ⟨k, pre, mk, fr, rfl, rfl, hk, hL, hnd, hcp, hrg, hcne, hmk, hM, hJs, hKp, hsz⟩ := hrel
    have hnr := nextS_range hB dd fr
    by_cases hto : 0 ≤ nextS B dd fr
    · obtain ⟨m, rfl⟩ := Int.eq_ofNat_of_zero_le (hnr.2.2 hto).1
      have hm64 : m < 64 := by have := (hnr.2.2 hto).2; omega
      obtain ⟨t, ht⟩ := Int.eq_ofNat_of_zero_le hto
      have ht64 : t < 64 := by omega
      have hcn : (c :: pre).Nodup := List.nodup_cons.2 ⟨hcp, hnd⟩
      have hmn : (m : Int) ∉ mk := by
        rw [hmk] at hcn; intro h
        exact (List.nodup_append.1 hcn).2.2 _ h _ (by simp) rfl
      have hM2 := hM.set hm64
      rw [← hmk] at hM2
      have hun := unmarked_lt hM (by rw [← hmk]; exact hM2) hm64 hmn
      have hJ2 : J W.heap.size pre (wr.setCell ⟨W.heap.size, m, none⟩ (.bool true)) := hJ _ _ _ _ (some W.heap.size) hJs ⟨rfl, rfl, rfl, by simp [World.setCell], fun i _ hi => Below.heap_setCell _ _ _ _ (fun e => hi (by rw [e]))⟩ (.inr rfl) (Nat.le_refl _)
      have hsz2 : W.heap.size < (wr.setCell ⟨W.heap.size, m, none⟩ (.bool true)).heap.size := by simpa [World.setCell] using hsz
      have hKp2 : Keep (walkP N Bc Bb Bd) W (wr.setCell ⟨W.heap.size, m, none⟩ (.bool true)) := ⟨by omega, fun i hi => (Below.heap_setCell _ _ _ _ (by unfold walkP at hi; simp; omega)).trans (hKp.2 i hi)⟩
      have hcm := (hM m hm64).1
      have hfm := (hM m hm64).2
      have hct := (hM2 t ht64).1
      by_cases hmem : (t : Int) ∈ c :: pre
      · have hL' : pre = lineS B dd c := by rw [← hL]; exact (lineTo_stop B dd c k pre m (by rw [ht]; exact .inr (List.mem_cons.1 hmem))).symm
        have hct' : (wr.setCell ⟨W.heap.size, m, none⟩ (.bool true)).cell? ⟨W.heap.size, t, none⟩ = some (.bool true) := by rw [hct]; simp only [hmem, decide_true]
        rw [ht]
        have HL := Lib.hid hL'
        have HT := Lib.hid ht
        have HN := Lib.hid hnr
        clear hL hmk ht hnr hM hM2 hcp hrg hk hmem hmn hct hto
        gi_wp2
        refine ⟨fun _ h => (by cases h), ?_⟩
        gi_wp2
        refine bodyPost_ret (results_none rfl _ _ _) rfl ?_
        exact ⟨⟨_, rfl⟩, _, Nat.le_refl _, by rw [← HL.out]; exact hJ2⟩
      · have hct' : (wr.setCell ⟨W.heap.size, m, none⟩ (.bool true)).cell? ⟨W.heap.size, t, none⟩ = some (.bool false) := by rw [hct]; simp only [hmem, decide_false]
        have hmem' : ¬ ((t : Int) = c ∨ (t : Int) ∈ pre) := by simpa using hmem
        have hcr : 0 ≤ c ∧ c < B.cells := by
          by_cases hp : pre = []
          · subst hp
            have h2 : c = (m : Int) := by
              cases mk with
              | nil => simpa using hmk
              | cons a mk => simp at hmk
            rw [h2]; exact hnr.2.2 hto
          · exact hcne hp
        have hlen : pre.length + 1 ≤ 64 := by
          have := pigeon B.cells.toNat (c :: pre) hcn (fun v hv => by
            rcases List.mem_cons.1 hv with rfl | h
            · omega
            · have := hrg v h; omega)
          simp at this; omega
        obtain ⟨k, rfl⟩ : ∃ k', k = k' + 1 := ⟨k - 1, by omega⟩
        have hgo : ¬ (nextS B dd m < 0 ∨ nextS B dd m = c ∨ nextS B dd m ∈ pre) := by
          rintro (h | h | h)
          · omega
          · rw [ht] at h; exact hmem' (.inl h)
          · rw [ht] at h; exact hmem' (.inr h)
        rw [lineTo_go B dd c k pre m hgo] at hL
        obtain ⟨fn, tmps, assign, body, hy, hR⟩ := hY _ pre t _ hJ2 (Nat.le_refl _) hsz2 (by omega)
        rw [ht] at hL ⊢
        have HL := Lib.hid hL
        have HT := Lib.hid ht
        have HN := Lib.hid hnr
        have HK := Lib.hid hmk
        have HM2 := Lib.hid hM2
        have HS := Lib.hid hk
        clear hL hmk ht hnr hM hM2 hk hct hto
        have htr : (t : Int) < B.cells := by have := HN.out.2.1; rw [HT.out] at this; exact this
        gi_wp2
        refine hR.mono ?_
        rintro e W3 ⟨rfl, hJ3, hk3⟩
        have hKp3 := hKp2.trans (hk3.mono (fun k hk => .inl hk))
        have e0 := (hKp3.cell (p := ⟨Bb, 0, none⟩) (.inr (.inr (.inl rfl)))).trans hb0
        have e1 := (hKp3.cell (p := ⟨Bb, 1, none⟩) (.inr (.inr (.inl rfl)))).trans hb1
        have e2 := (hKp3.cell (p := ⟨Bb, 2, none⟩) (.inr (.inr (.inl rfl)))).trans hb2
        have e3 := (hKp3.cell (p := ⟨Bd, 0, none⟩) (.inr (.inr (.inr rfl)))).trans hd0
        have eH := hH.keep hKp3 (fun k hk => .inl hk)
        have hs3 := hk3.1
        have hM3 : Marks W.heap.size W3 (c :: pre) := HM2.out.same (hk3.2 _ (.inr rfl))
        have HM3 := Lib.hid hM3
        clear hM3 hR hy hY
        gi_wp2_with fail
        refine ⟨trivial, ?_⟩
        refine (callsIn_wide.2 (next_any B hB an at_ cn ct _ _ N _ eH)).mono ?_
        rintro e w4 ⟨rfl, hb4⟩
        have hM4 : Marks W.heap.size w4 (c :: pre) := HM3.out.same (hb4.block _ (by omega))
        have HM4 := Lib.hid hM4
        clear hM4
        gi_wp2
        go_roundw
        case rel =>
          have q1 : k + (pre ++ [(t : Int)]).length = 64 := by have := HS.out; simp; omega
          have q2 : (pre ++ [(t : Int)]).Nodup := by
            refine List.nodup_append.2 ⟨hnd, by simp, ?_⟩
            intro a ha b hb e'
            have hbt : b = (t : Int) := by simpa using hb
            rw [e', hbt] at ha
            exact hmem' (.inr ha)
          have q3 : c ∉ pre ++ [(t : Int)] := by
            intro h
            rcases List.mem_append.1 h with h | h
            · exact hcp h
            · exact hmem' (.inl (List.mem_singleton.1 h).symm)
          have q4 : ∀ v ∈ pre ++ [(t : Int)], 0 ≤ v ∧ v < B.cells := by
            intro v hv
            rcases List.mem_append.1 hv with h | h
            · exact hrg v h
            · rw [List.mem_singleton.1 h]; exact ⟨by omega, htr⟩
          exact ⟨k, pre ++ [(t : Int)], c :: pre, t, rfl, rfl, q1, HL.out, q2, q3, q4, fun _ => hcr, by simp, HM4.out, hJ _ _ _ _ none hJ3 (below_grown hb4) (.inl rfl) (Nat.le_refl _), hKp3.trans (Below.keep hb4 (fun k hk => by unfold walkP at hk; omega)), by have := hb4.size; omega⟩
        case measure =>
          have : unmarked W.heap.size w4 = unmarked W.heap.size (wr.setCell ⟨W.heap.size, m, none⟩ (.bool true)) := unmarked_eq HM4.out HM2.out
          omega
    · have hd : decide (0 ≤ nextS B dd fr) = false := by simpa using hto
      have hL' : pre = lineS B dd c := by rw [← hL]; exact (lineTo_stop B dd c k pre fr (.inl (by omega))).symm
      have HL := Lib.hid hL
      have HM := Lib.hid hmk
      clear hL hmk
      gi_wp2
      go_end0
      exact ⟨⟨_, rfl⟩, _, Nat.le_refl _, by rw [← hL']; exact hJs⟩
end Go.Proofs.YtcpjkilnbhfpjaaDoor
