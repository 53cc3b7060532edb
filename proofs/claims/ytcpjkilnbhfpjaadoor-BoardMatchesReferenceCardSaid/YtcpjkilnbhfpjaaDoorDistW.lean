/-
  distances of the package board, walked.
-/
import Derived.Test.YtcpjkilnbhfpjaaDoorDist
namespace Go.Proofs.YtcpjkilnbhfpjaaDoor
open Go Go.RowKit Go.Shelf

attribute [local go_sem] Oper.semAt_some

/-- What the function onward gives: an iterator over the neighbors of c. -/
def Onward (n : Nat) (gf : Nat) (lb : Array Value) (adj : Int → List Int) (P : Nat → Prop) (M : Nat) (w : World) : Prop :=
  ∀ (W : World) (c : Int), 0 ≤ c → c < n → Keep P w W → Calls Tryd.prog gf (#[.int .i64 c] ++ lb) W fun e W' => ∃ g lb', e = .returned (.func (.func g) #[] lb') ∧ (∀ args X, (callFunc g args).run Tryd.prog X = .ok (.enter g args) X) ∧ Below W.heap.size W W' ∧
    ∀ k, StopsInt (fun x => 0 ≤ x ∧ x < n) k Tryd.prog g lb' (Keep fun k => P k ∨ (W.heap.size ≤ k ∧ k < W'.heap.size)) (adj c) M W'

/-- The state of distances in memory. -/
structure DSt (h Bf Bq : Nat) (vf : Value) (G : Value → Prop) (w : World) (far q : List Int) (W : World) : Prop where
  bf : Boxed W Bf 29 vf
  ownf : OwnInts h W vf far
  qx : ∃ vq, Boxed W Bq 29 vq ∧ OwnQ h W vq q ∧ ¬ vq.ownBlock = vf.ownBlock ∧ G vq
  below : Below h w W

/-- Between two rounds of the loop over the neighbors of c. -/
def DistI (n h Bf Bq Bc s2 s3 : Nat) (vf : Value) (w : World) (c : Nat) (far q : List Int) (Ds : List Nat) (pre : List { y : Int // 0 ≤ y ∧ y < (n : Int) }) (X : World) : Prop :=
  (DSt h Bf Bq vf (fun vq => ∀ k, some k = vq.ownBlock → k ≠ Bc ∧ (k < s2 ∨ s3 ≤ k)) w ((pre.map (·.1)).foldl (bfsStep c) (far, q)).1 ((pre.map (·.1)).foldl (bfsStep c) (far, q)).2 X ∧ Boxed X Bc 3 (.int .i64 c)) ∧
    s3 ≤ X.heap.size ∧ ∀ D ∈ Ds, X.heap[D]? = some (.deferred (some []))

theorem DSt.kept {h Bf Bq : Nat} {vf : Value} {G : Value → Prop} {w : World} {far q : List Int} {X Y : World} {row : Option Nat} (hs : DSt h Bf Bq vf G w far q X) (hh : h ≤ X.heap.size) (hg : X.grownBy Y row)
    (hr : ∀ r, row = some r → h ≤ r ∧ ∃ o : Obj, X.heap[r]? = some o ∧ o.isCells = false) : DSt h Bf Bq vf G w far q Y := by
  obtain ⟨vq, h1, h2, h3, h4⟩ := hs.qx
  have nb : ∀ {B : Nat} {t : TypeId} {v : Value}, Boxed X B t v → ¬ some B = row := by
    intro B t v hb e
    obtain ⟨_, o, ho, hc⟩ := hr B e.symm
    have hb' : X.heap[B]? = _ := hb
    rw [hb'] at ho; cases ho; cases hc
  have no : ∀ {v : Value}, (∀ D o, X.heap[D]? = some o → o.isCells = false → ¬ some D = v.ownBlock) → v.ownBlock ≠ none → ¬ v.ownBlock = row := by
    intro v hv hn e
    cases hrow : row with
    | none => rw [hrow] at e; exact hn e
    | some r =>
      obtain ⟨_, o, ho, hc⟩ := hr r hrow
      exact hv r o ho hc (by rw [e, hrow])
  refine ⟨hs.bf.kept hg (nb hs.bf), ?_, ⟨vq, h1.kept hg (nb h1), h2.kept hg (no (fun D o hD ho => h2.not_cells hD ho) ?_), h3, h4⟩, hs.below.grown hg hh (fun k e => (hr k e).1)⟩
  · refine World.ownsRow.kept hs.ownf hg ?_
    by_cases hn : vf.ownBlock = none
    · exact .inl hn
    · exact .inr (no (fun D o hD ho => not_own hs.ownf hD ho) hn)
  · obtain ⟨g, off, cap, cur, rfl, _⟩ := h2
    simp [Value.ownBlock]

set_option maxRecDepth 100000 in
set_option maxHeartbeats 2000000 in
theorem dist_any (n : Nat) (h1 : 1 ≤ n) (h64 : n ≤ 64) (fr : Nat) (hfr : fr < n) (gf : Nat) (lb : Array Value) (eg : ∀ args X, (callFunc gf args).run Tryd.prog X = .ok (.enter gf args) X) (adj : Int → List Int) (P : Nat → Prop) (M : Nat) (w : World)
    (hP : ∀ k, P k → k < w.heap.size) (hadj : ∀ c x : Int, 0 ≤ c → c < n → x ∈ adj c → 0 ≤ x ∧ x < n) (hOn : Onward n gf lb adj P M w) :
    CallsIn Fence.wide 4 Tryd.prog 43 #[.int .i64 n, .int .i64 fr, .func (.func gf) #[] lb] w fun e W' => ∃ v, e = .returned v ∧ OwnInts w.heap.size W' v (distS adj n fr) ∧ Below w.heap.size w W' := by
  have f1 : Fence.wide.fn 46 := trivial
  refine callsIn_of_wp_marks Tryd.func43 rfl trivial ?_ rfl
  simp only [Tryd.ntmps43, List.size_toArray, List.length_cons, List.length_nil, Nat.reduceAdd, Nat.reduceSub, Array.replicate_succ, Array.replicate_zero, List.push_toArray, List.append_toArray, List.nil_append, List.cons_append]
  gi_wp2_with fail
  refine (callsIn_wide.2 (repeat_one n (-1) w.heap.size _ h1 h64 (cell_new_at _ _ _ _ _ _ rfl rfl))).mono ?_
  rintro e w1 ⟨v1, rfl, hown1, hb1⟩
  rcases hown1.form with ⟨rfl, h0⟩ | ⟨G, cap1, rfl, hG1, hG2⟩
  · simp at h0; omega
  obtain ⟨hcF, hfF⟩ := hown1.cellAt (j := fr) (by simpa using hfr)
  simp only [List.getElem?_replicate, hfr, if_true, Option.getD_some] at hcF
  rw [World.size_alloc] at hG1
  simp only [List.length_replicate] at hown1 ⊢
  gi_wp2_with fail
  obtain ⟨W0, hW0⟩ : ∃ W0, ((((w1.setCell { block := G, off := fr } (Value.int IntKind.i64 0)).alloc (Obj.cells #[Value.slice (some { block := G, off := 0 }) n cap1] 29)).alloc (Obj.cells #[Value.int IntKind.i64 ↑fr] 3)).alloc
      (Obj.cells #[Value.slice (some { block := w1.heap.size + 1, off := 0 }) 1 1] 29)) = W0 := ⟨_, rfl⟩
  have hs1 : w.heap.size + 1 ≤ w1.heap.size := by have := hb1.size; simpa using this
  have hsc : (w1.setCell { block := G, off := fr } (Value.int IntKind.i64 0)).heap.size = w1.heap.size := by simp [World.setCell]
  have hs0 : W0.heap.size = w1.heap.size + 3 := by rw [← hW0]; simp
  have hBw1 : Below w.heap.size w w1 := below_step ((Below.refl _ _).alloc (Nat.le_refl _) _) hb1
  have hd0 : DSt w.heap.size w1.heap.size (w1.heap.size + 1 + 1) (.slice (some ⟨G, 0, none⟩) n cap1) (fun _ => True) w ((List.replicate n (-1)).set fr 0) [(fr : Int)] W0 := by
    refine ⟨?_, ?_, ⟨_, ?_, ⟨w1.heap.size + 1, 0, 1, #[.int .i64 fr], rfl, by omega, ?_, by simp, by simp, fun j hj => ?_⟩, ?_, trivial⟩, ?_⟩
    · rw [← hW0]; exact ((boxed_new_at _ _ _ _ hsc.symm).alloc _).alloc _
    · rw [← hW0]
      have := OwnInts.set hown1 fr 0
      exact OwnInts.mono (n := w.heap.size + 1) (World.ownsRow.alloc (World.ownsRow.alloc (World.ownsRow.alloc (by rw [World.size_alloc] at this; exact this) _) _) _) (by omega)
    · rw [← hW0]; exact boxed_new_at _ _ _ _ (by simp)
    · rw [← hW0]
      refine (Below.heap_alloc _ _ _ (by simp)).trans ?_
      have := World.alloc_heap_new ((w1.setCell { block := G, off := fr } (Value.int IntKind.i64 0)).alloc (Obj.cells #[Value.slice (some { block := G, off := 0 }) n cap1] 29)) (Obj.cells #[Value.int IntKind.i64 ↑fr] 3)
      rw [World.size_alloc, hsc] at this
      exact this
    · obtain rfl : j = 0 := by simpa using hj
      simp
    · simp [Value.ownBlock]; omega
    · rw [← hW0]
      exact (((hBw1.setCell (p := ⟨G, fr, none⟩) (by show w.heap.size ≤ G; omega) _).alloc (by simp; omega) _).alloc (by simp; omega) _).alloc (by simp; omega) _
  rw [hW0]
  clear hW0 hcF hfF hown1 hb1
  have hstart := farOk_start n fr hfr
  refine wpIn_loop_ghost (fun j a W => ∃ (far q : List Int) (Ds : List Nat) (u9 u10 u19 u20 u21 u22 u23 u24 u25 u26 u27 u28 u29 u30 u31 u32 u33 u34 u35 u36 u37 u38 u39 u40 u41 u42 u43 u44 u45 u46 u47 u48 : Value), a = { tmps := #[Value.int IntKind.i64 ↑n, Value.int IntKind.i64 ↑fr, Value.func (Fn.func gf) #[] lb, undef, undef, undef, Value.slice none 0 0, Value.pointer (some { block := w1.heap.size, off := 0 }), Value.pointer (some { block := w1.heap.size + 1 + 1, off := 0 }), u9, u10, Value.slice (some { block := w.heap.size, off := 0 }) 1 1, Value.int IntKind.i64 ↑n, Value.slice (some { block := G, off := 0 }) n cap1, Value.slice (some { block := G, off := 0 }) n cap1, Value.int IntKind.i64 ↑fr, Value.pointer (some { block := G, off := fr }), Value.int IntKind.i64 ↑fr, Value.slice (some { block := w1.heap.size + 1, off := 0 }) 1 1, u19, u20, u21, u22, u23, u24, u25, u26, u27, u28, u29, u30, u31, u32, u33, u34, u35, u36, u37, u38, u39, u40, u41, u42, u43, u44, u45, u46, u47, u48], defers := marksOf Ds } ∧
    bfsGo adj j far q = distS adj n fr ∧ FarOk n far q ∧ (unset far + q.length < j ∧ j ≤ n + 1) ∧ DSt w.heap.size w1.heap.size (w1.heap.size + 1 + 1) (.slice (some ⟨G, 0, none⟩) n cap1) (fun _ => True) w far q W ∧ w1.heap.size + 3 ≤ W.heap.size ∧ Ds.Nodup ∧
    ∀ D ∈ Ds, w1.heap.size + 3 ≤ D ∧ W.heap[D]? = some (.deferred (some []))) (n + 1) ?_ ?_
  · exact ⟨_, _, [], _, _, _, _, _, _, _, _, _, _, _, _, _, _, _, _, _, _, _, _, _, _, _, _, _, _, _, _, _, _, _, _, rfl, rfl, hstart.1, ⟨by simp; omega, Nat.le_refl _⟩, hd0, by omega, List.nodup_nil, by simp⟩
  rintro j a W ⟨far, q, Ds, u9, u10, u19, u20, u21, u22, u23, u24, u25, u26, u27, u28, u29, u30, u31, u32, u33, u34, u35, u36, u37, u38, u39, u40, u41, u42, u43, u44, u45, u46, u47, u48, rfl, hgo, hfo, ⟨hun, hjn⟩, hst, hsz, hnd, hDs⟩
  obtain ⟨vq, hbq, hoq, hne, _⟩ := hst.qx
  have hcq := hbq.cell
  have hcf := hst.bf.cell
  cases q with
  | nil =>
    obtain ⟨g, off, cap, cur, rfl, _⟩ := hoq
    simp only [List.length_nil] at hcq
    gi_wp2
    have hfar : far = distS adj n fr := by
      cases j with
      | zero => simp at hun
      | succ j => exact hgo
    refine leaves_marks Ds W hnd (fun D hD => (hDs D hD).2) (fun W' hW' => ⟨_, results_tmp rfl _ _ _, _, rfl, ?_, ?_⟩)
    · rw [← hfar]; exact hst.ownf.alters hW' (fun k hk => not_own hst.ownf (hDs k hk).2 rfl)
    · exact hst.below.trans (hW'.below (by omega) (fun k hk => by have := (hDs k hk).1; omega))
  | cons c q =>
    obtain ⟨j, rfl⟩ : ∃ j', j = j' + 1 := ⟨j - 1, by omega⟩
    have hcr := hfo.qin c (by simp)
    have hcs := hfo.qset c (by simp)
    have hfo2 : FarOk n far q := ⟨hfo.len, fun x hx => hfo.qin x (by simp [hx]), fun x hx => hfo.qset x (by simp [hx]), hfo.big⟩
    obtain ⟨c, rfl⟩ := Int.eq_ofNat_of_zero_le hcr.1
    have hfq := hbq.frozen
    have hlt1 : w1.heap.size + 1 + 1 < W.heap.size := by omega
    have hlt2 : w1.heap.size < W.heap.size := by omega
    obtain ⟨g, off, cap, rfl, hcap, hc0, hoq2⟩ := hoq.at_
    by_cases hc1 : cap = 1
    · subst hc1
      simp only [if_true, Nat.sub_self] at hoq2
      gi_wp2_with fail
      have hq0 : q.length = 0 := by omega
      have hne2 : ¬ (Value.slice (some ⟨g, off, none⟩) 0 0).ownBlock = (Value.slice (some ⟨G, 0, none⟩) n cap1).ownBlock := hne
      rw [hq0] at hoq2
      clear hq0
      generalize Value.slice (some ⟨g, off, none⟩) 0 0 = vq2 at hoq2 hne2 ⊢
      obtain ⟨W2, hW2⟩ : ∃ W2, (W.setCell { block := w1.heap.size + 1 + 1, off := 0 } vq2).alloc (Obj.cells #[Value.int IntKind.i64 c] 3) = W2 := ⟨_, rfl⟩
      have hal2 : Alters (fun k => k = w1.heap.size + 1 + 1) W W2 := by
        rw [← hW2]
        refine Alters.trans (B := W.setCell { block := w1.heap.size + 1 + 1, off := 0 } vq2) ((Alters.of_grown (grownBy_setCell' W _ vq2)).mono (fun k _ e => by simpa using e)) (Alters.of_below ((Below.refl _ _).alloc (Nat.le_refl _) _))
      have hsW2 : W2.heap.size = W.heap.size + 1 := by rw [← hW2]; simp [World.setCell]
      have hbc2 : Boxed W2 W.heap.size 3 (.int .i64 c) := by rw [← hW2]; exact boxed_new_at _ _ _ _ (by simp [World.setCell])
      have hbq2 : Boxed W2 (w1.heap.size + 1 + 1) 29 vq2 := by rw [← hW2]; exact (hbq.set vq2).alloc _
      have hown2 : ¬ some W.heap.size = vq2.ownBlock := fun e => by have := (hoq2.lt e).2; omega
      have hoqW2 : OwnQ w.heap.size W2 vq2 q := hoq2.alters hal2 (fun k hk => by rw [hk]; exact hoq2.not_box hbq (by decide))
      have hofW2 : OwnInts w.heap.size W2 (.slice (some ⟨G, 0, none⟩) n cap1) far := hst.ownf.alters hal2 (fun k hk => by rw [hk]; simp [Value.ownBlock]; omega)
      have hbfW2 : Boxed W2 w1.heap.size 29 (.slice (some ⟨G, 0, none⟩) n cap1) := hal2.boxed hst.bf (by omega)
      have hBW2 : Below w.heap.size w W2 := hst.below.trans (hal2.below (by omega) (fun k hk => by omega))
      have hDs2 : ∀ D ∈ Ds, W2.heap[D]? = some (.deferred (some [])) := fun D hD => (hal2.block D (Array.getElem?_eq_some_iff.1 (hDs D hD).2).1 (by have := (hDs D hD).1; omega)).trans (hDs D hD).2
      rw [hW2]
      clear hW2
      refine ⟨trivial, ?_⟩
      refine (callsIn_wide.2 (hOn W2 c hcr.1 hcr.2 ⟨hBW2.size, fun k hk => hBW2.block k (hP k hk)⟩)).mono ?_
      rintro e W3 ⟨g2, lb2, rfl, eg2, hb3, hst3⟩
      have hs3 := hb3.size
      gi_wp2_with fail
      refine wpIn_rangeFunc_ownG (N := M) rfl (by omega) (gf := g2) (lb := lb2) rfl trivial eg2 ((hst3 2).seqK) (fun h k => h.trans k) ?hKb (Below.refl _ _) (fun _ => rfl)
        (DistI n w.heap.size w1.heap.size (w1.heap.size + 1 + 1) W.heap.size W2.heap.size W3.heap.size (.slice (some ⟨G, 0, none⟩) n cap1) w c far q Ds)
        (fun _ _ _ => False) ?hI (fun _ _ _ _ _ hs _ _ => hs) ?h0
        (fun x => { tmps := #[Value.int IntKind.i64 ↑n, Value.int IntKind.i64 ↑fr, Value.func (Fn.func gf) #[] lb, undef, undef, undef, Value.slice none 0 0, Value.pointer (some { block := w1.heap.size, off := 0 }), Value.pointer (some { block := w1.heap.size + 1 + 1, off := 0 }), Value.pointer (some { block := W.heap.size, off := 0 }), .int .i64 x.1, Value.slice (some { block := w.heap.size, off := 0 }) 1 1, Value.int IntKind.i64 ↑n, Value.slice (some { block := G, off := 0 }) n cap1, Value.slice (some { block := G, off := 0 }) n cap1, Value.int IntKind.i64 ↑fr, Value.pointer (some { block := G, off := fr }), Value.int IntKind.i64 ↑fr, Value.slice (some { block := w1.heap.size + 1, off := 0 }) 1 1, Value.slice (some { block := g, off := off }) (q.length + 1) 1, Value.int IntKind.i64 (↑q.length + 1), Value.bool true, Value.slice (some { block := g, off := off }) (q.length + 1) 1, Value.pointer (some { block := g, off := off }), Value.int IntKind.i64 c, Value.slice (some { block := g, off := off }) (q.length + 1) 1, vq2, Value.func (Fn.func gf) #[] lb, Value.int IntKind.i64 c, Value.func (Fn.func g2) #[] lb2, .int .i64 x.1, u31, u32, u33, u34, u35, u36, u37, u38, u39, u40, u41, u42, u43, u44, u45, u46, u47, u48], defers := [] }) ?assign ?body ?done ?stop
      case hKb =>
        intro X l o o' hl hlo _ _
        have hlt := (Array.getElem?_eq_some_iff.1 hlo).1
        refine (Alters.of_grown (grownBy_putObj' X l o')).keep (fun k hk => ?_)
        have hk3 : k < W3.heap.size := by
          rcases hk with hk | hk
          · have := hP k hk; omega
          · exact hk.2
        refine ⟨by omega, fun e => ?_⟩
        have e' : k = l := by simpa using e
        omega
      case hI =>
        rintro s X Y row ⟨⟨hst', hbx⟩, hszX, hDsX⟩ hg hr
        have hrne : ∀ k, k < W3.heap.size → ¬ some k = row := fun k hk e => by have := (hr k e.symm).1; omega
        refine ⟨⟨hst'.kept (by omega) hg (fun r e => ⟨by have := (hr r e).1; omega, (hr r e).2⟩), hbx.kept hg (hrne _ (by omega))⟩, Nat.le_trans hszX hg.size, fun D hD => ?_⟩
        exact (hg.block D (Array.getElem?_eq_some_iff.1 (hDsX D hD)).1 (hrne D (by have := (Array.getElem?_eq_some_iff.1 (hDs2 D hD)).1; omega))).trans (hDsX D hD)
      case h0 =>
        have ha3 : Alters (fun _ => False) W2 W3 := Alters.of_below hb3
        refine ⟨⟨⟨ha3.boxed hbfW2 (fun h => h), hofW2.alters ha3 (fun _ h => h.elim), ⟨vq2, ha3.boxed hbq2 (fun h => h), hoqW2.alters ha3 (fun _ h => h.elim), hne2, fun k hk => ?_⟩, hBW2.trans (hb3.mono hBW2.size)⟩, ha3.boxed hbc2 (fun h => h)⟩, Nat.le_refl _, fun D hD => (ha3.block D (Array.getElem?_eq_some_iff.1 (hDs2 D hD)).1 (fun h => h)).trans (hDs2 D hD)⟩
        have h1 := hoqW2.lt hk
        refine ⟨fun e => ?_, .inl h1.2⟩
        rw [e] at hk
        exact hown2 hk
      case assign =>
        intro l x X K hK
        gi_wp2
        exact hK
      case body =>
        have HS2 := Lib.hid hsW2
        clear hsW2
        rintro l pre ⟨x, hx0, hx1⟩ X ⟨⟨hst', hbx⟩, hszX, hDsX⟩ hlt
        obtain ⟨x, rfl⟩ := Int.eq_ofNat_of_zero_le hx0
        obtain ⟨hfo', hcs', hun'⟩ := bfsFold_ok ⟨hcr.1, hcr.2⟩ (pre.map (·.1)) far q (by intro y hy; obtain ⟨z, _, rfl⟩ := List.mem_map.1 hy; exact z.2) hfo2 hcs
        have hfold : ((pre ++ [(⟨(x : Int), hx0, hx1⟩ : { y : Int // 0 ≤ y ∧ y < (n : Int) })]).map (·.1)).foldl (bfsStep c) (far, q) = bfsStep c ((pre.map (·.1)).foldl (bfsStep c) (far, q)) x := by rw [List.map_append, List.foldl_append]; rfl
        generalize (pre.map (·.1)).foldl (bfsStep c) (far, q) = st at hst' hfo' hcs' hun' hfold
        obtain ⟨far', q'⟩ := st
        simp only at hst' hfo' hcs' hun'
        obtain ⟨vq', hbq', hoq', hne', hG'⟩ := hst'.qx
        have hl' := hfo'.len
        have hxl : x < far'.length := by omega
        have hcl : c < far'.length := by omega
        obtain ⟨hcx, hfx⟩ := OwnInts.cellAt hst'.ownf hxl
        obtain ⟨hcc, _⟩ := OwnInts.cellAt hst'.ownf hcl
        have hcb := hbx.cell
        have hcf := hst'.bf.cell
        have hcq' := hbq'.cell
        have hxn : (x : Int) < (n : Int) := by omega
        have hx00 : (0 : Int) ≤ (x : Int) := Int.natCast_nonneg _
        simp only [Int.toNat_natCast] at hcs'
        by_cases hneg : far'[x]?.getD 0 < 0
        · have hb : bfsStep c (far', q') x = (far'.set x (far'[c]?.getD 0 + 1), q' ++ [(x : Int)]) := by unfold bfsStep; rw [if_pos (by simpa using hneg)]; simp
          rw [hb] at hfold
          have HF := Lib.hid hfold
          clear hb hfold
          have hcr2 : (c : Int) < (n : Int) := hcr.2
          have hc00 : (0 : Int) ≤ (c : Int) := Int.natCast_nonneg _
          have hbig := hfo'.big (far'[c]?.getD 0) (by simp [hcl])
          have hw : IntKind.i64.wrap (far'[c]?.getD 0 + 1) = far'[c]?.getD 0 + 1 := IntWalk.i64_in _ (by omega)
          have hxc : x ≠ c := fun e => by rw [e] at hneg; omega
          gi_wp2_with fail
          refine wpIn_region_round (S := fun w' => w'.cell? ⟨w1.heap.size, 0, none⟩ = some (.slice (some ⟨G, 0, none⟩) n cap1) ∧ w'.cell? ⟨W.heap.size, 0, none⟩ = some (.int .i64 c) ∧ w'.cell? ⟨G, c, none⟩ = some (.int .i64 (far'[c]?.getD 0))) (by kernel_rfl) (nodefer (by rfl)) (fun ⟨_, _, h⟩ => h) ⟨hcf, hcb, hcc⟩ (fun hHeld => ?_)
          refine wpAnyH_take (i := 0) (oi := { dst := some 36, op := Op.load 29 (Operand.tmp 7), type := 29, pos := "step.go:85", after := #[], guard := none }) (v := ?_) rfl (by kernel_rfl) (by kernel_rfl) (by kernel_rfl) (fun _ _ _ h => h) (Or.inl ⟨by rfl, ?_⟩) (by assumption) ?_
          rotate_left
          · ((intro w hSw; (try dsimp only at hSw); go_simp); try with_reducible rfl)
          (try simp only [Act.put, List.setIfInBounds_toArray, List.set_cons_zero, List.set_cons_succ])
          refine wpAnyH_take (i := 1) (oi := { dst := some 37, op := Op.move (Operand.tmp 10), type := 3, pos := "step.go:85", after := #[], guard := none }) (v := ?_) rfl (by kernel_rfl) (by kernel_rfl) (by kernel_rfl) (fun _ _ _ h => h) (Or.inl ⟨by rfl, ?_⟩) (by assumption) ?_
          rotate_left
          · ((intro w hSw; (try dsimp only at hSw); go_simp); try with_reducible rfl)
          (try simp only [Act.put, List.setIfInBounds_toArray, List.set_cons_zero, List.set_cons_succ])
          refine wpAnyH_take (i := 2) (oi := { dst := some 38, op := Op.load 29 (Operand.tmp 7), type := 29, pos := "step.go:85", after := #[], guard := none }) (v := ?_) rfl (by kernel_rfl) (by kernel_rfl) (by kernel_rfl) (fun _ _ _ h => h) (Or.inl ⟨by rfl, ?_⟩) (by assumption) ?_
          rotate_left
          · ((intro w hSw; (try dsimp only at hSw); go_simp); try with_reducible rfl)
          (try simp only [Act.put, List.setIfInBounds_toArray, List.set_cons_zero, List.set_cons_succ])
          refine wpAnyH_take (i := 3) (oi := { dst := some 39, op := Op.load 3 (Operand.tmp 9), type := 3, pos := "step.go:85", after := #[], guard := none }) (v := ?_) rfl (by kernel_rfl) (by kernel_rfl) (by kernel_rfl) (fun _ _ _ h => h) (Or.inl ⟨by rfl, ?_⟩) (by assumption) ?_
          rotate_left
          · ((intro w hSw; (try dsimp only at hSw); go_simp); try with_reducible rfl)
          (try simp only [Act.put, List.setIfInBounds_toArray, List.set_cons_zero, List.set_cons_succ])
          refine wpAnyH_take (i := 4) (oi := { dst := some 40, op := Op.indexAddr 29 (Operand.tmp 38) (Operand.tmp 39), type := 0, pos := "step.go:85", after := #[{ on := 2, ground := Ground.data }, { on := 3, ground := Ground.data }], guard := none }) (v := ?_) rfl (by kernel_rfl) (by kernel_rfl) (by kernel_rfl) (fun _ _ _ h => h) (Or.inl ⟨by rfl, ?_⟩) (by assumption) ?_
          rotate_left
          · ((intro w hSw; (try dsimp only at hSw); go_simp); try with_reducible rfl)
          (try simp only [Act.put, List.setIfInBounds_toArray, List.set_cons_zero, List.set_cons_succ])
          refine wpAnyH_take (i := 5) (oi := { dst := some 41, op := Op.load 3 (Operand.tmp 40), type := 3, pos := "step.go:85", after := #[{ on := 4, ground := Ground.data }], guard := none }) (v := ?_) rfl (by kernel_rfl) (by kernel_rfl) (by kernel_rfl) (fun _ _ _ h => h) (Or.inl ⟨by rfl, ?_⟩) (by assumption) ?_
          rotate_left
          · ((intro w hSw; (try dsimp only at hSw); go_simp); try with_reducible rfl)
          (try simp only [Act.put, List.setIfInBounds_toArray, List.set_cons_zero, List.set_cons_succ])
          refine wpAnyH_take (i := 6) (oi := { dst := some 42, op := Op.binOp BinOp.add 3 (Operand.tmp 41) (Operand.const (Value.int IntKind.i64 1)) 3, type := 3, pos := "step.go:85", after := #[{ on := 5, ground := Ground.data }], guard := none }) (v := ?_) rfl (by kernel_rfl) (by kernel_rfl) (by kernel_rfl) (fun _ _ _ h => h) (Or.inl ⟨by rfl, ?_⟩) (by assumption) ?_
          rotate_left
          · ((intro w hSw; (try dsimp only at hSw); go_simp); try with_reducible rfl)
          (try simp only [Act.put, List.setIfInBounds_toArray, List.set_cons_zero, List.set_cons_succ])
          refine wpAnyH_take (i := 7) (oi := { dst := some 43, op := Op.indexAddr 29 (Operand.tmp 36) (Operand.tmp 37), type := 0, pos := "step.go:85", after := #[{ on := 0, ground := Ground.data }, { on := 1, ground := Ground.data }, { on := 0, ground := Ground.phase }, { on := 1, ground := Ground.phase }, { on := 2, ground := Ground.phase }, { on := 3, ground := Ground.phase }, { on := 4, ground := Ground.phase }, { on := 5, ground := Ground.phase }, { on := 6, ground := Ground.phase }], guard := none }) (v := ?_) rfl (by kernel_rfl) (by kernel_rfl) (by kernel_rfl) (fun _ _ _ h => h) (Or.inl ⟨by rfl, ?_⟩) (by assumption) ?_
          rotate_left
          · ((intro w hSw; (try dsimp only at hSw); go_simp); try with_reducible rfl)
          (try simp only [Act.put, List.setIfInBounds_toArray, List.set_cons_zero, List.set_cons_succ])
          refine wpAnyH_ready (rs := [8]) (by kernel_rfl) (by simp) ?_
          refine AllReadyH.cons (o := { dst := none, op := Op.store 3 (Operand.tmp 43) (Operand.tmp 42), type := 0, pos := "step.go:85", after := #[{ on := 7, ground := Ground.data }, { on := 6, ground := Ground.data }, { on := 0, ground := Ground.phase }, { on := 1, ground := Ground.phase }, { on := 2, ground := Ground.phase }, { on := 3, ground := Ground.phase }, { on := 4, ground := Ground.phase }, { on := 5, ground := Ground.phase }, { on := 6, ground := Ground.phase }], guard := none }) rfl (fun K hK => ?_) AllReadyH.nil
          have hcx' : X.drew.cell? ⟨G, x, none⟩ = some (.int .i64 (far'[x]?.getD 0)) := hcx
          have hfx' : X.drew.frozen? ⟨G, x, none⟩ = false := hfx
          go_simp
          refine hK.out _ _ ⟨?_, ?_, ?_⟩ (fun _ => ?_)
          · show (X.setCell _ _).cell? _ = _
            rw [World.cell?_setCell_other _ _ _ _ (fun e => by cases e; omega)]; exact hcf
          · show (X.setCell _ _).cell? _ = _
            rw [World.cell?_setCell_other _ _ _ _ (fun e => by cases e; omega)]; exact hcb
          · show (X.setCell _ _).cell? _ = _
            rw [World.cell?_setCell_other _ _ _ _ (fun e => hxc (by cases e; rfl))]; exact hcc
          clear hK K
          (try simp only [Act.put, List.setIfInBounds_toArray, List.set_cons_zero, List.set_cons_succ])
          refine wpAnyH_done (by kernel_rfl) ?_ _
          clear hHeld hcx' hfx'
          have hset := OwnInts.set hst'.ownf x (far'[c]?.getD 0 + 1)
          obtain ⟨X2, hX2⟩ : ∃ X2, (X.setCell { block := G, off := x } (Value.int IntKind.i64 (far'[c]?.getD 0 + 1))).drew = X2 := ⟨_, rfl⟩
          have halX : Alters (fun k => k = G) X X2 := by
            rw [← hX2]
            exact ⟨rfl, rfl, rfl, by simp [World.setCell, World.drew], fun k hk hs => Below.heap_setCell _ _ _ _ hs⟩
          have hsetX : OwnInts w.heap.size X2 (.slice (some ⟨G, 0, none⟩) n cap1) (far'.set x (far'[c]?.getD 0 + 1)) := by rw [← hX2]; exact hset
          rw [hX2]
          clear hX2 hset
          have hqG : ¬ some G = vq'.ownBlock := fun e => hne' e.symm
          have hbq2' : Boxed X2 (w1.heap.size + 1 + 1) 29 vq' := halX.boxed hbq' (by omega)
          have hbf2' : Boxed X2 w1.heap.size 29 (.slice (some ⟨G, 0, none⟩) n cap1) := halX.boxed hst'.bf (by omega)
          have hbc2' : Boxed X2 W.heap.size 3 (.int .i64 c) := halX.boxed hbx (by omega)
          have hoq2' : OwnQ w.heap.size X2 vq' q' := hoq'.alters halX (fun k hk => by rw [hk]; exact hqG)
          have hcqX := hbq2'.cell
          have hql : q'.length < 1000 := by simp only [List.length_cons] at hun; omega
          have hsX2 := halX.size
          have hwX : w.heap.size ≤ X2.heap.size := by have := hBW2.size; omega
          gi_wp2_with (gi_at_builtin; refine wpListIn_append_q rfl _ _ rfl w.heap.size vq' q' rfl (hoq2'.kept (World.grownBy_alloc X2 _ none) (fun e => by obtain ⟨_, _, _, _, rfl, _⟩ := hoq2'; simp [Value.ownBlock] at e)) hql (by rw [World.size_alloc]; omega) ⟨X2.heap.size, 0, none⟩ x rfl (cell_new_at _ _ _ _ _ _ rfl rfl) ?_; intro v5 w5 hown5 hgrow5 hat5
                       have hb5 : Boxed w5 (w1.heap.size + 1 + 1) 29 vq' := (hbq2'.alloc _).kept hgrow5 (hoq2'.not_box hbq2' (by decide))
                       have hc5 := hb5.cell
                       have hf5 := hb5.frozen
                       obtain ⟨g5, off5, cap5, rfl⟩ : ∃ g off cap, v5 = .slice (some ⟨g, off, none⟩) (q'.length + 1) cap := by obtain ⟨g, off, cap, h⟩ := hown5.form; exact ⟨g, off, cap, by rw [h]; simp⟩)
          have hg6 := grownBy_setCell' w5 (w1.heap.size + 1 + 1) (.slice (some ⟨g5, off5, none⟩) (q'.length + 1) cap5)
          have hvb : ∀ k, some k = vq'.ownBlock → w.heap.size ≤ k ∧ k < X2.heap.size := fun k hk => hoq2'.lt hk
          have hal6 : Alters (fun k => k = w1.heap.size + 1 + 1 ∨ some k = vq'.ownBlock) X2 (w5.setCell ⟨w1.heap.size + 1 + 1, 0, none⟩ (.slice (some ⟨g5, off5, none⟩) (q'.length + 1) cap5)) := by
            refine Alters.trans (Alters.of_below ((Below.refl X2.heap.size X2).alloc (Nat.le_refl _) (Obj.cells #[.int .i64 x] 3))) (Alters.trans (B := w5) ((Alters.of_grown hgrow5).mono (fun k _ h => .inr h)) ((Alters.of_grown hg6).mono (fun k _ h => .inl (by simpa using h))))
          have hs6 := hal6.size
          have hb6 : Boxed (w5.setCell ⟨w1.heap.size + 1 + 1, 0, none⟩ (.slice (some ⟨g5, off5, none⟩) (q'.length + 1) cap5)) (w1.heap.size + 1 + 1) 29 (.slice (some ⟨g5, off5, none⟩) (q'.length + 1) cap5) := hb5.set _
          have hown6 : OwnQ w.heap.size (w5.setCell ⟨w1.heap.size + 1 + 1, 0, none⟩ (.slice (some ⟨g5, off5, none⟩) (q'.length + 1) cap5)) (.slice (some ⟨g5, off5, none⟩) (q'.length + 1) cap5) (q' ++ [(x : Int)]) :=
            hown5.kept hg6 (fun e => hown5.not_box hb5 (by decide) e.symm)
          have hnew : ∀ k, some k = (Value.slice (some ⟨g5, off5, none⟩) (q'.length + 1) cap5).ownBlock → some k = vq'.ownBlock ∨ X2.heap.size < k := by
            intro k hk
            rcases hat5 with h | ⟨k', h, hk'⟩
            · exact .inl (hk.trans h)
            · rw [h] at hk
              have : k = k' := by simpa using hk
              subst this
              right; rw [World.size_alloc] at hk'; omega
          have hvs : ¬ (G = w1.heap.size + 1 + 1 ∨ some G = vq'.ownBlock) := by
            rintro (h | h)
            · omega
            · exact hqG h
          have hsW2 := HS2.out
          have hGX : G < X2.heap.size := by omega
          have hne6 : ¬ (Value.slice (some ⟨g5, off5, none⟩) (q'.length + 1) cap5).ownBlock = (Value.slice (some ⟨G, 0, none⟩) n cap1).ownBlock := by
            intro e
            have e' : some G = (Value.slice (some ⟨g5, off5, none⟩) (q'.length + 1) cap5).ownBlock := by rw [e]; rfl
            rcases hnew G e' with h | h
            · exact hqG h
            · omega
          have hSX : ∀ k, k < W3.heap.size → (P k ∨ W2.heap.size ≤ k ∧ k < W3.heap.size) → ¬ (k = w1.heap.size + 1 + 1 ∨ some k = vq'.ownBlock) := by
            intro k hk hp e
            have hkw : k < w.heap.size ∨ W2.heap.size ≤ k := hp.imp (hP k) And.left
            rcases e with rfl | e
            · omega
            · have h1 := (hvb k e).1
              have h2 := (hG' k e).2
              omega
          have hwW : w.heap.size ≤ W2.heap.size := hBW2.size
          refine ⟨⟨by omega, fun k o hk ho hoc => ?_⟩, ⟨by omega, fun k hk => ?_⟩, ⟨⟨?_, ?_⟩, by omega, fun D hD => ?_⟩⟩
          · have hkX : k < X.heap.size := (Array.getElem?_eq_some_iff.1 ho).1
            have hkG : ¬ k = G := fun e => by subst e; exact not_own hst'.ownf ho hoc rfl
            have hkv : ¬ some k = vq'.ownBlock := hoq'.not_cells ho hoc
            have hkB : ¬ k = w1.heap.size + 1 + 1 := fun e => by
              subst e
              have hb' : X.heap[w1.heap.size + 1 + 1]? = _ := hbq'
              rw [hb'] at ho; cases ho; cases hoc
            exact (hal6.block k (by omega) (by rintro (h | h); exact hkB h; exact hkv h)).trans ((halX.block k hkX hkG).trans ho)
          · have hk3 : k < W3.heap.size := by
              rcases hk with hk | hk
              · have := hP k hk; omega
              · exact hk.2
            have hkG : ¬ k = G := fun e => by
              rcases hk with hk | hk
              · have := hP k hk; omega
              · omega
            exact (hal6.block k (by omega) (hSX k hk3 hk)).trans (halX.block k (by omega) hkG)
          · rw [HF.out]
            refine ⟨hal6.boxed hbf2' (by rintro (h | h); omega; exact hoq2'.not_box hbf2' (by decide) h), hsetX.alters hal6 (fun k hk e => ?_), ⟨_, hb6, hown6, hne6, fun k hk => ?_⟩, ?_⟩
            · have ek : k = G := by simpa [Value.ownBlock] using e
              subst ek
              exact hvs hk
            · rcases hnew k hk with h | h
              · exact hG' k h
              · exact ⟨by omega, .inr (by omega)⟩
            · exact (hst'.below.trans (halX.below (by omega) (fun k hk => by omega))).trans (hal6.below (by omega) (fun k hk => by rcases hk with h | h; omega; exact (hvb k h).1))
          · refine hal6.boxed hbc2' ?_
            rintro (h | h)
            · omega
            · exact (hG' _ h).1 rfl
          · have hX := hDsX D hD
            have hDX : D < X.heap.size := (Array.getElem?_eq_some_iff.1 hX).1
            have hDG : ¬ D = G := fun e => by have := (hDs D hD).1; omega
            exact (hal6.block D (by omega) (by rintro (h | h); have := (hDs D hD).1; omega; exact hoq'.not_cells hX rfl h)).trans ((halX.block D hDX hDG).trans hX)
        · have hd : decide (far'[x]?.getD 0 < 0) = false := by simpa using hneg
          have hb : bfsStep c (far', q') x = (far', q') := by unfold bfsStep; rw [if_neg (by simpa using hneg)]
          rw [hb] at hfold
          have HF := Lib.hid hfold
          clear hb hfold
          gi_wp2
          exact ⟨KeepsFrom.refl _ _, Keep.refl _ _, ⟨by rw [HF.out]; exact hst', hbx⟩, hszX, hDsX⟩
      case done =>
        rintro D ys X hD hys ⟨⟨hst', hbx⟩, hszX, hDsX⟩ hK
        rw [hys] at hst'
        obtain ⟨hfo', _, hun'⟩ := bfsFold_ok ⟨hcr.1, hcr.2⟩ (adj c) far q (fun x hx => hadj c x hcr.1 hcr.2 hx) hfo2 hcs
        obtain ⟨vq', hbq', hoq', hne', _⟩ := hst'.qx
        simp only [List.length_cons] at hun
        refine ⟨j, by omega, _, _, D :: Ds, _, _, _, _, _, _, _, _, _, _, _, _, _, _, _, _, _, _, _, _, _, _, _, _, _, _, _, _, _, _, _, _, rfl, hgo, hfo', ⟨by omega, by omega⟩, ⟨hst'.bf, hst'.ownf, ⟨vq', hbq', hoq', hne', trivial⟩, hst'.below⟩, by omega, ?_, ?_⟩
        · refine List.nodup_cons.2 ⟨fun h => ?_, hnd⟩
          have := (Array.getElem?_eq_some_iff.1 (hDs2 D h)).1; omega
        · intro D' hD'
          rcases List.mem_cons.1 hD' with rfl | h
          · exact ⟨by omega, hK⟩
          · exact ⟨(hDs D' h).1, hDsX D' h⟩
      case stop =>
        rintro D c pre X _ _ h _
        exact h.elim
    · rw [if_neg hc1] at hoq2
      gi_wp2_with fail
      have hne2 : ¬ (Value.slice (some ⟨g, off + 1, none⟩) q.length (cap - 1)).ownBlock = (Value.slice (some ⟨G, 0, none⟩) n cap1).ownBlock := hne
      generalize Value.slice (some ⟨g, off + 1, none⟩) q.length (cap - 1) = vq2 at hoq2 hne2 ⊢
      obtain ⟨W2, hW2⟩ : ∃ W2, (W.setCell { block := w1.heap.size + 1 + 1, off := 0 } vq2).alloc (Obj.cells #[Value.int IntKind.i64 c] 3) = W2 := ⟨_, rfl⟩
      have hal2 : Alters (fun k => k = w1.heap.size + 1 + 1) W W2 := by
        rw [← hW2]
        refine Alters.trans (B := W.setCell { block := w1.heap.size + 1 + 1, off := 0 } vq2) ((Alters.of_grown (grownBy_setCell' W _ vq2)).mono (fun k _ e => by simpa using e)) (Alters.of_below ((Below.refl _ _).alloc (Nat.le_refl _) _))
      have hsW2 : W2.heap.size = W.heap.size + 1 := by rw [← hW2]; simp [World.setCell]
      have hbc2 : Boxed W2 W.heap.size 3 (.int .i64 c) := by rw [← hW2]; exact boxed_new_at _ _ _ _ (by simp [World.setCell])
      have hbq2 : Boxed W2 (w1.heap.size + 1 + 1) 29 vq2 := by rw [← hW2]; exact (hbq.set vq2).alloc _
      have hown2 : ¬ some W.heap.size = vq2.ownBlock := fun e => by have := (hoq2.lt e).2; omega
      have hoqW2 : OwnQ w.heap.size W2 vq2 q := hoq2.alters hal2 (fun k hk => by rw [hk]; exact hoq2.not_box hbq (by decide))
      have hofW2 : OwnInts w.heap.size W2 (.slice (some ⟨G, 0, none⟩) n cap1) far := hst.ownf.alters hal2 (fun k hk => by rw [hk]; simp [Value.ownBlock]; omega)
      have hbfW2 : Boxed W2 w1.heap.size 29 (.slice (some ⟨G, 0, none⟩) n cap1) := hal2.boxed hst.bf (by omega)
      have hBW2 : Below w.heap.size w W2 := hst.below.trans (hal2.below (by omega) (fun k hk => by omega))
      have hDs2 : ∀ D ∈ Ds, W2.heap[D]? = some (.deferred (some [])) := fun D hD => (hal2.block D (Array.getElem?_eq_some_iff.1 (hDs D hD).2).1 (by have := (hDs D hD).1; omega)).trans (hDs D hD).2
      rw [hW2]
      clear hW2
      refine ⟨trivial, ?_⟩
      refine (callsIn_wide.2 (hOn W2 c hcr.1 hcr.2 ⟨hBW2.size, fun k hk => hBW2.block k (hP k hk)⟩)).mono ?_
      rintro e W3 ⟨g2, lb2, rfl, eg2, hb3, hst3⟩
      have hs3 := hb3.size
      gi_wp2_with fail
      refine wpIn_rangeFunc_ownG (N := M) rfl (by omega) (gf := g2) (lb := lb2) rfl trivial eg2 ((hst3 2).seqK) (fun h k => h.trans k) ?hKb (Below.refl _ _) (fun _ => rfl)
        (DistI n w.heap.size w1.heap.size (w1.heap.size + 1 + 1) W.heap.size W2.heap.size W3.heap.size (.slice (some ⟨G, 0, none⟩) n cap1) w c far q Ds)
        (fun _ _ _ => False) ?hI (fun _ _ _ _ _ hs _ _ => hs) ?h0
        (fun x => { tmps := #[Value.int IntKind.i64 ↑n, Value.int IntKind.i64 ↑fr, Value.func (Fn.func gf) #[] lb, undef, undef, undef, Value.slice none 0 0, Value.pointer (some { block := w1.heap.size, off := 0 }), Value.pointer (some { block := w1.heap.size + 1 + 1, off := 0 }), Value.pointer (some { block := W.heap.size, off := 0 }), .int .i64 x.1, Value.slice (some { block := w.heap.size, off := 0 }) 1 1, Value.int IntKind.i64 ↑n, Value.slice (some { block := G, off := 0 }) n cap1, Value.slice (some { block := G, off := 0 }) n cap1, Value.int IntKind.i64 ↑fr, Value.pointer (some { block := G, off := fr }), Value.int IntKind.i64 ↑fr, Value.slice (some { block := w1.heap.size + 1, off := 0 }) 1 1, Value.slice (some { block := g, off := off }) (q.length + 1) cap, Value.int IntKind.i64 (↑q.length + 1), Value.bool true, Value.slice (some { block := g, off := off }) (q.length + 1) cap, Value.pointer (some { block := g, off := off }), Value.int IntKind.i64 c, Value.slice (some { block := g, off := off }) (q.length + 1) cap, vq2, Value.func (Fn.func gf) #[] lb, Value.int IntKind.i64 c, Value.func (Fn.func g2) #[] lb2, .int .i64 x.1, u31, u32, u33, u34, u35, u36, u37, u38, u39, u40, u41, u42, u43, u44, u45, u46, u47, u48], defers := [] }) ?assign ?body ?done ?stop
      case hKb =>
        intro X l o o' hl hlo _ _
        have hlt := (Array.getElem?_eq_some_iff.1 hlo).1
        refine (Alters.of_grown (grownBy_putObj' X l o')).keep (fun k hk => ?_)
        have hk3 : k < W3.heap.size := by
          rcases hk with hk | hk
          · have := hP k hk; omega
          · exact hk.2
        refine ⟨by omega, fun e => ?_⟩
        have e' : k = l := by simpa using e
        omega
      case hI =>
        rintro s X Y row ⟨⟨hst', hbx⟩, hszX, hDsX⟩ hg hr
        have hrne : ∀ k, k < W3.heap.size → ¬ some k = row := fun k hk e => by have := (hr k e.symm).1; omega
        refine ⟨⟨hst'.kept (by omega) hg (fun r e => ⟨by have := (hr r e).1; omega, (hr r e).2⟩), hbx.kept hg (hrne _ (by omega))⟩, Nat.le_trans hszX hg.size, fun D hD => ?_⟩
        exact (hg.block D (Array.getElem?_eq_some_iff.1 (hDsX D hD)).1 (hrne D (by have := (Array.getElem?_eq_some_iff.1 (hDs2 D hD)).1; omega))).trans (hDsX D hD)
      case h0 =>
        have ha3 : Alters (fun _ => False) W2 W3 := Alters.of_below hb3
        refine ⟨⟨⟨ha3.boxed hbfW2 (fun h => h), hofW2.alters ha3 (fun _ h => h.elim), ⟨vq2, ha3.boxed hbq2 (fun h => h), hoqW2.alters ha3 (fun _ h => h.elim), hne2, fun k hk => ?_⟩, hBW2.trans (hb3.mono hBW2.size)⟩, ha3.boxed hbc2 (fun h => h)⟩, Nat.le_refl _, fun D hD => (ha3.block D (Array.getElem?_eq_some_iff.1 (hDs2 D hD)).1 (fun h => h)).trans (hDs2 D hD)⟩
        have h1 := hoqW2.lt hk
        refine ⟨fun e => ?_, .inl h1.2⟩
        rw [e] at hk
        exact hown2 hk
      case assign =>
        intro l x X K hK
        gi_wp2
        exact hK
      case body =>
        have HS2 := Lib.hid hsW2
        clear hsW2
        rintro l pre ⟨x, hx0, hx1⟩ X ⟨⟨hst', hbx⟩, hszX, hDsX⟩ hlt
        obtain ⟨x, rfl⟩ := Int.eq_ofNat_of_zero_le hx0
        obtain ⟨hfo', hcs', hun'⟩ := bfsFold_ok ⟨hcr.1, hcr.2⟩ (pre.map (·.1)) far q (by intro y hy; obtain ⟨z, _, rfl⟩ := List.mem_map.1 hy; exact z.2) hfo2 hcs
        have hfold : ((pre ++ [(⟨(x : Int), hx0, hx1⟩ : { y : Int // 0 ≤ y ∧ y < (n : Int) })]).map (·.1)).foldl (bfsStep c) (far, q) = bfsStep c ((pre.map (·.1)).foldl (bfsStep c) (far, q)) x := by rw [List.map_append, List.foldl_append]; rfl
        generalize (pre.map (·.1)).foldl (bfsStep c) (far, q) = st at hst' hfo' hcs' hun' hfold
        obtain ⟨far', q'⟩ := st
        simp only at hst' hfo' hcs' hun'
        obtain ⟨vq', hbq', hoq', hne', hG'⟩ := hst'.qx
        have hl' := hfo'.len
        have hxl : x < far'.length := by omega
        have hcl : c < far'.length := by omega
        obtain ⟨hcx, hfx⟩ := OwnInts.cellAt hst'.ownf hxl
        obtain ⟨hcc, _⟩ := OwnInts.cellAt hst'.ownf hcl
        have hcb := hbx.cell
        have hcf := hst'.bf.cell
        have hcq' := hbq'.cell
        have hxn : (x : Int) < (n : Int) := by omega
        have hx00 : (0 : Int) ≤ (x : Int) := Int.natCast_nonneg _
        simp only [Int.toNat_natCast] at hcs'
        by_cases hneg : far'[x]?.getD 0 < 0
        · have hb : bfsStep c (far', q') x = (far'.set x (far'[c]?.getD 0 + 1), q' ++ [(x : Int)]) := by unfold bfsStep; rw [if_pos (by simpa using hneg)]; simp
          rw [hb] at hfold
          have HF := Lib.hid hfold
          clear hb hfold
          have hcr2 : (c : Int) < (n : Int) := hcr.2
          have hc00 : (0 : Int) ≤ (c : Int) := Int.natCast_nonneg _
          have hbig := hfo'.big (far'[c]?.getD 0) (by simp [hcl])
          have hw : IntKind.i64.wrap (far'[c]?.getD 0 + 1) = far'[c]?.getD 0 + 1 := IntWalk.i64_in _ (by omega)
          have hxc : x ≠ c := fun e => by rw [e] at hneg; omega
          gi_wp2_with fail
          refine wpIn_region_round (S := fun w' => w'.cell? ⟨w1.heap.size, 0, none⟩ = some (.slice (some ⟨G, 0, none⟩) n cap1) ∧ w'.cell? ⟨W.heap.size, 0, none⟩ = some (.int .i64 c) ∧ w'.cell? ⟨G, c, none⟩ = some (.int .i64 (far'[c]?.getD 0))) (by kernel_rfl) (nodefer (by rfl)) (fun ⟨_, _, h⟩ => h) ⟨hcf, hcb, hcc⟩ (fun hHeld => ?_)
          refine wpAnyH_take (i := 0) (oi := { dst := some 36, op := Op.load 29 (Operand.tmp 7), type := 29, pos := "step.go:85", after := #[], guard := none }) (v := ?_) rfl (by kernel_rfl) (by kernel_rfl) (by kernel_rfl) (fun _ _ _ h => h) (Or.inl ⟨by rfl, ?_⟩) (by assumption) ?_
          rotate_left
          · ((intro w hSw; (try dsimp only at hSw); go_simp); try with_reducible rfl)
          (try simp only [Act.put, List.setIfInBounds_toArray, List.set_cons_zero, List.set_cons_succ])
          refine wpAnyH_take (i := 1) (oi := { dst := some 37, op := Op.move (Operand.tmp 10), type := 3, pos := "step.go:85", after := #[], guard := none }) (v := ?_) rfl (by kernel_rfl) (by kernel_rfl) (by kernel_rfl) (fun _ _ _ h => h) (Or.inl ⟨by rfl, ?_⟩) (by assumption) ?_
          rotate_left
          · ((intro w hSw; (try dsimp only at hSw); go_simp); try with_reducible rfl)
          (try simp only [Act.put, List.setIfInBounds_toArray, List.set_cons_zero, List.set_cons_succ])
          refine wpAnyH_take (i := 2) (oi := { dst := some 38, op := Op.load 29 (Operand.tmp 7), type := 29, pos := "step.go:85", after := #[], guard := none }) (v := ?_) rfl (by kernel_rfl) (by kernel_rfl) (by kernel_rfl) (fun _ _ _ h => h) (Or.inl ⟨by rfl, ?_⟩) (by assumption) ?_
          rotate_left
          · ((intro w hSw; (try dsimp only at hSw); go_simp); try with_reducible rfl)
          (try simp only [Act.put, List.setIfInBounds_toArray, List.set_cons_zero, List.set_cons_succ])
          refine wpAnyH_take (i := 3) (oi := { dst := some 39, op := Op.load 3 (Operand.tmp 9), type := 3, pos := "step.go:85", after := #[], guard := none }) (v := ?_) rfl (by kernel_rfl) (by kernel_rfl) (by kernel_rfl) (fun _ _ _ h => h) (Or.inl ⟨by rfl, ?_⟩) (by assumption) ?_
          rotate_left
          · ((intro w hSw; (try dsimp only at hSw); go_simp); try with_reducible rfl)
          (try simp only [Act.put, List.setIfInBounds_toArray, List.set_cons_zero, List.set_cons_succ])
          refine wpAnyH_take (i := 4) (oi := { dst := some 40, op := Op.indexAddr 29 (Operand.tmp 38) (Operand.tmp 39), type := 0, pos := "step.go:85", after := #[{ on := 2, ground := Ground.data }, { on := 3, ground := Ground.data }], guard := none }) (v := ?_) rfl (by kernel_rfl) (by kernel_rfl) (by kernel_rfl) (fun _ _ _ h => h) (Or.inl ⟨by rfl, ?_⟩) (by assumption) ?_
          rotate_left
          · ((intro w hSw; (try dsimp only at hSw); go_simp); try with_reducible rfl)
          (try simp only [Act.put, List.setIfInBounds_toArray, List.set_cons_zero, List.set_cons_succ])
          refine wpAnyH_take (i := 5) (oi := { dst := some 41, op := Op.load 3 (Operand.tmp 40), type := 3, pos := "step.go:85", after := #[{ on := 4, ground := Ground.data }], guard := none }) (v := ?_) rfl (by kernel_rfl) (by kernel_rfl) (by kernel_rfl) (fun _ _ _ h => h) (Or.inl ⟨by rfl, ?_⟩) (by assumption) ?_
          rotate_left
          · ((intro w hSw; (try dsimp only at hSw); go_simp); try with_reducible rfl)
          (try simp only [Act.put, List.setIfInBounds_toArray, List.set_cons_zero, List.set_cons_succ])
          refine wpAnyH_take (i := 6) (oi := { dst := some 42, op := Op.binOp BinOp.add 3 (Operand.tmp 41) (Operand.const (Value.int IntKind.i64 1)) 3, type := 3, pos := "step.go:85", after := #[{ on := 5, ground := Ground.data }], guard := none }) (v := ?_) rfl (by kernel_rfl) (by kernel_rfl) (by kernel_rfl) (fun _ _ _ h => h) (Or.inl ⟨by rfl, ?_⟩) (by assumption) ?_
          rotate_left
          · ((intro w hSw; (try dsimp only at hSw); go_simp); try with_reducible rfl)
          (try simp only [Act.put, List.setIfInBounds_toArray, List.set_cons_zero, List.set_cons_succ])
          refine wpAnyH_take (i := 7) (oi := { dst := some 43, op := Op.indexAddr 29 (Operand.tmp 36) (Operand.tmp 37), type := 0, pos := "step.go:85", after := #[{ on := 0, ground := Ground.data }, { on := 1, ground := Ground.data }, { on := 0, ground := Ground.phase }, { on := 1, ground := Ground.phase }, { on := 2, ground := Ground.phase }, { on := 3, ground := Ground.phase }, { on := 4, ground := Ground.phase }, { on := 5, ground := Ground.phase }, { on := 6, ground := Ground.phase }], guard := none }) (v := ?_) rfl (by kernel_rfl) (by kernel_rfl) (by kernel_rfl) (fun _ _ _ h => h) (Or.inl ⟨by rfl, ?_⟩) (by assumption) ?_
          rotate_left
          · ((intro w hSw; (try dsimp only at hSw); go_simp); try with_reducible rfl)
          (try simp only [Act.put, List.setIfInBounds_toArray, List.set_cons_zero, List.set_cons_succ])
          refine wpAnyH_ready (rs := [8]) (by kernel_rfl) (by simp) ?_
          refine AllReadyH.cons (o := { dst := none, op := Op.store 3 (Operand.tmp 43) (Operand.tmp 42), type := 0, pos := "step.go:85", after := #[{ on := 7, ground := Ground.data }, { on := 6, ground := Ground.data }, { on := 0, ground := Ground.phase }, { on := 1, ground := Ground.phase }, { on := 2, ground := Ground.phase }, { on := 3, ground := Ground.phase }, { on := 4, ground := Ground.phase }, { on := 5, ground := Ground.phase }, { on := 6, ground := Ground.phase }], guard := none }) rfl (fun K hK => ?_) AllReadyH.nil
          have hcx' : X.drew.cell? ⟨G, x, none⟩ = some (.int .i64 (far'[x]?.getD 0)) := hcx
          have hfx' : X.drew.frozen? ⟨G, x, none⟩ = false := hfx
          go_simp
          refine hK.out _ _ ⟨?_, ?_, ?_⟩ (fun _ => ?_)
          · show (X.setCell _ _).cell? _ = _
            rw [World.cell?_setCell_other _ _ _ _ (fun e => by cases e; omega)]; exact hcf
          · show (X.setCell _ _).cell? _ = _
            rw [World.cell?_setCell_other _ _ _ _ (fun e => by cases e; omega)]; exact hcb
          · show (X.setCell _ _).cell? _ = _
            rw [World.cell?_setCell_other _ _ _ _ (fun e => hxc (by cases e; rfl))]; exact hcc
          clear hK K
          (try simp only [Act.put, List.setIfInBounds_toArray, List.set_cons_zero, List.set_cons_succ])
          refine wpAnyH_done (by kernel_rfl) ?_ _
          clear hHeld hcx' hfx'
          have hset := OwnInts.set hst'.ownf x (far'[c]?.getD 0 + 1)
          obtain ⟨X2, hX2⟩ : ∃ X2, (X.setCell { block := G, off := x } (Value.int IntKind.i64 (far'[c]?.getD 0 + 1))).drew = X2 := ⟨_, rfl⟩
          have halX : Alters (fun k => k = G) X X2 := by
            rw [← hX2]
            exact ⟨rfl, rfl, rfl, by simp [World.setCell, World.drew], fun k hk hs => Below.heap_setCell _ _ _ _ hs⟩
          have hsetX : OwnInts w.heap.size X2 (.slice (some ⟨G, 0, none⟩) n cap1) (far'.set x (far'[c]?.getD 0 + 1)) := by rw [← hX2]; exact hset
          rw [hX2]
          clear hX2 hset
          have hqG : ¬ some G = vq'.ownBlock := fun e => hne' e.symm
          have hbq2' : Boxed X2 (w1.heap.size + 1 + 1) 29 vq' := halX.boxed hbq' (by omega)
          have hbf2' : Boxed X2 w1.heap.size 29 (.slice (some ⟨G, 0, none⟩) n cap1) := halX.boxed hst'.bf (by omega)
          have hbc2' : Boxed X2 W.heap.size 3 (.int .i64 c) := halX.boxed hbx (by omega)
          have hoq2' : OwnQ w.heap.size X2 vq' q' := hoq'.alters halX (fun k hk => by rw [hk]; exact hqG)
          have hcqX := hbq2'.cell
          have hql : q'.length < 1000 := by simp only [List.length_cons] at hun; omega
          have hsX2 := halX.size
          have hwX : w.heap.size ≤ X2.heap.size := by have := hBW2.size; omega
          gi_wp2_with (gi_at_builtin; refine wpListIn_append_q rfl _ _ rfl w.heap.size vq' q' rfl (hoq2'.kept (World.grownBy_alloc X2 _ none) (fun e => by obtain ⟨_, _, _, _, rfl, _⟩ := hoq2'; simp [Value.ownBlock] at e)) hql (by rw [World.size_alloc]; omega) ⟨X2.heap.size, 0, none⟩ x rfl (cell_new_at _ _ _ _ _ _ rfl rfl) ?_; intro v5 w5 hown5 hgrow5 hat5
                       have hb5 : Boxed w5 (w1.heap.size + 1 + 1) 29 vq' := (hbq2'.alloc _).kept hgrow5 (hoq2'.not_box hbq2' (by decide))
                       have hc5 := hb5.cell
                       have hf5 := hb5.frozen
                       obtain ⟨g5, off5, cap5, rfl⟩ : ∃ g off cap, v5 = .slice (some ⟨g, off, none⟩) (q'.length + 1) cap := by obtain ⟨g, off, cap, h⟩ := hown5.form; exact ⟨g, off, cap, by rw [h]; simp⟩)
          have hg6 := grownBy_setCell' w5 (w1.heap.size + 1 + 1) (.slice (some ⟨g5, off5, none⟩) (q'.length + 1) cap5)
          have hvb : ∀ k, some k = vq'.ownBlock → w.heap.size ≤ k ∧ k < X2.heap.size := fun k hk => hoq2'.lt hk
          have hal6 : Alters (fun k => k = w1.heap.size + 1 + 1 ∨ some k = vq'.ownBlock) X2 (w5.setCell ⟨w1.heap.size + 1 + 1, 0, none⟩ (.slice (some ⟨g5, off5, none⟩) (q'.length + 1) cap5)) := by
            refine Alters.trans (Alters.of_below ((Below.refl X2.heap.size X2).alloc (Nat.le_refl _) (Obj.cells #[.int .i64 x] 3))) (Alters.trans (B := w5) ((Alters.of_grown hgrow5).mono (fun k _ h => .inr h)) ((Alters.of_grown hg6).mono (fun k _ h => .inl (by simpa using h))))
          have hs6 := hal6.size
          have hb6 : Boxed (w5.setCell ⟨w1.heap.size + 1 + 1, 0, none⟩ (.slice (some ⟨g5, off5, none⟩) (q'.length + 1) cap5)) (w1.heap.size + 1 + 1) 29 (.slice (some ⟨g5, off5, none⟩) (q'.length + 1) cap5) := hb5.set _
          have hown6 : OwnQ w.heap.size (w5.setCell ⟨w1.heap.size + 1 + 1, 0, none⟩ (.slice (some ⟨g5, off5, none⟩) (q'.length + 1) cap5)) (.slice (some ⟨g5, off5, none⟩) (q'.length + 1) cap5) (q' ++ [(x : Int)]) :=
            hown5.kept hg6 (fun e => hown5.not_box hb5 (by decide) e.symm)
          have hnew : ∀ k, some k = (Value.slice (some ⟨g5, off5, none⟩) (q'.length + 1) cap5).ownBlock → some k = vq'.ownBlock ∨ X2.heap.size < k := by
            intro k hk
            rcases hat5 with h | ⟨k', h, hk'⟩
            · exact .inl (hk.trans h)
            · rw [h] at hk
              have : k = k' := by simpa using hk
              subst this
              right; rw [World.size_alloc] at hk'; omega
          have hvs : ¬ (G = w1.heap.size + 1 + 1 ∨ some G = vq'.ownBlock) := by
            rintro (h | h)
            · omega
            · exact hqG h
          have hsW2 := HS2.out
          have hGX : G < X2.heap.size := by omega
          have hne6 : ¬ (Value.slice (some ⟨g5, off5, none⟩) (q'.length + 1) cap5).ownBlock = (Value.slice (some ⟨G, 0, none⟩) n cap1).ownBlock := by
            intro e
            have e' : some G = (Value.slice (some ⟨g5, off5, none⟩) (q'.length + 1) cap5).ownBlock := by rw [e]; rfl
            rcases hnew G e' with h | h
            · exact hqG h
            · omega
          have hSX : ∀ k, k < W3.heap.size → (P k ∨ W2.heap.size ≤ k ∧ k < W3.heap.size) → ¬ (k = w1.heap.size + 1 + 1 ∨ some k = vq'.ownBlock) := by
            intro k hk hp e
            have hkw : k < w.heap.size ∨ W2.heap.size ≤ k := hp.imp (hP k) And.left
            rcases e with rfl | e
            · omega
            · have h1 := (hvb k e).1
              have h2 := (hG' k e).2
              omega
          have hwW : w.heap.size ≤ W2.heap.size := hBW2.size
          refine ⟨⟨by omega, fun k o hk ho hoc => ?_⟩, ⟨by omega, fun k hk => ?_⟩, ⟨⟨?_, ?_⟩, by omega, fun D hD => ?_⟩⟩
          · have hkX : k < X.heap.size := (Array.getElem?_eq_some_iff.1 ho).1
            have hkG : ¬ k = G := fun e => by subst e; exact not_own hst'.ownf ho hoc rfl
            have hkv : ¬ some k = vq'.ownBlock := hoq'.not_cells ho hoc
            have hkB : ¬ k = w1.heap.size + 1 + 1 := fun e => by
              subst e
              have hb' : X.heap[w1.heap.size + 1 + 1]? = _ := hbq'
              rw [hb'] at ho; cases ho; cases hoc
            exact (hal6.block k (by omega) (by rintro (h | h); exact hkB h; exact hkv h)).trans ((halX.block k hkX hkG).trans ho)
          · have hk3 : k < W3.heap.size := by
              rcases hk with hk | hk
              · have := hP k hk; omega
              · exact hk.2
            have hkG : ¬ k = G := fun e => by
              rcases hk with hk | hk
              · have := hP k hk; omega
              · omega
            exact (hal6.block k (by omega) (hSX k hk3 hk)).trans (halX.block k (by omega) hkG)
          · rw [HF.out]
            refine ⟨hal6.boxed hbf2' (by rintro (h | h); omega; exact hoq2'.not_box hbf2' (by decide) h), hsetX.alters hal6 (fun k hk e => ?_), ⟨_, hb6, hown6, hne6, fun k hk => ?_⟩, ?_⟩
            · have ek : k = G := by simpa [Value.ownBlock] using e
              subst ek
              exact hvs hk
            · rcases hnew k hk with h | h
              · exact hG' k h
              · exact ⟨by omega, .inr (by omega)⟩
            · exact (hst'.below.trans (halX.below (by omega) (fun k hk => by omega))).trans (hal6.below (by omega) (fun k hk => by rcases hk with h | h; omega; exact (hvb k h).1))
          · refine hal6.boxed hbc2' ?_
            rintro (h | h)
            · omega
            · exact (hG' _ h).1 rfl
          · have hX := hDsX D hD
            have hDX : D < X.heap.size := (Array.getElem?_eq_some_iff.1 hX).1
            have hDG : ¬ D = G := fun e => by have := (hDs D hD).1; omega
            exact (hal6.block D (by omega) (by rintro (h | h); have := (hDs D hD).1; omega; exact hoq'.not_cells hX rfl h)).trans ((halX.block D hDX hDG).trans hX)
        · have hd : decide (far'[x]?.getD 0 < 0) = false := by simpa using hneg
          have hb : bfsStep c (far', q') x = (far', q') := by unfold bfsStep; rw [if_neg (by simpa using hneg)]
          rw [hb] at hfold
          have HF := Lib.hid hfold
          clear hb hfold
          gi_wp2
          exact ⟨KeepsFrom.refl _ _, Keep.refl _ _, ⟨by rw [HF.out]; exact hst', hbx⟩, hszX, hDsX⟩
      case done =>
        rintro D ys X hD hys ⟨⟨hst', hbx⟩, hszX, hDsX⟩ hK
        rw [hys] at hst'
        obtain ⟨hfo', _, hun'⟩ := bfsFold_ok ⟨hcr.1, hcr.2⟩ (adj c) far q (fun x hx => hadj c x hcr.1 hcr.2 hx) hfo2 hcs
        obtain ⟨vq', hbq', hoq', hne', _⟩ := hst'.qx
        simp only [List.length_cons] at hun
        refine ⟨j, by omega, _, _, D :: Ds, _, _, _, _, _, _, _, _, _, _, _, _, _, _, _, _, _, _, _, _, _, _, _, _, _, _, _, _, _, _, _, _, rfl, hgo, hfo', ⟨by omega, by omega⟩, ⟨hst'.bf, hst'.ownf, ⟨vq', hbq', hoq', hne', trivial⟩, hst'.below⟩, by omega, ?_, ?_⟩
        · refine List.nodup_cons.2 ⟨fun h => ?_, hnd⟩
          have := (Array.getElem?_eq_some_iff.1 (hDs2 D h)).1; omega
        · intro D' hD'
          rcases List.mem_cons.1 hD' with rfl | h
          · exact ⟨by omega, hK⟩
          · exact ⟨(hDs D' h).1, hDsX D' h⟩
      case stop =>
        rintro D c pre X _ _ h _
        exact h.elim
end Go.Proofs.YtcpjkilnbhfpjaaDoor
