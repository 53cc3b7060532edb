/-
  slices.SortFunc at positions.
-/
import Derived.Test.YtphhkfelpckilaaGreatDoorDRow
import Derived.Test.YtphhkfelpckilaaGreatDoorShelfB
namespace Go.Proofs.YtphhkfelpckilaaGreatDoor
open Go Go.RowKit Go.Lib Go.Sort

abbrev AT (N : Nat) (W : World) := {x : PosA // AOk N W x}
instance instAT (N : Nat) (W : World) : Inhabited (AT N W) := ⟨⟨⟨⟨[], [], [], 0, 0⟩, none, none, none, 0, 0, 0⟩, ⟨⟨Nat.zero_le _, Nat.zero_le _, Nat.zero_le _⟩, ⟨.inl rfl, .inl rfl, .inl rfl⟩⟩⟩⟩
def AT.e {N : Nat} {W : World} (x : AT N W) : List Value := x.1.enc
def AT.cf {N : Nat} {W : World} (x y : AT N W) : Int := cmpP x.1.p y.1.p
theorem AT.lt_iff {N : Nat} {W : World} (x y : AT N W) : ltOf AT.cf x y = true ↔ cmpP x.1.p y.1.p = -1 := by
  unfold ltOf AT.cf
  rw [decide_eq_true_eq]
  have := cmpP_ok.rng x.1.p y.1.p
  omega
theorem AT.nlt_iff {N : Nat} {W : World} (x y : AT N W) : ltOf AT.cf x y = false ↔ cmpP x.1.p y.1.p ≠ -1 := by
  rw [← Bool.not_eq_true, AT.lt_iff]
theorem AT.swo (N : Nat) (W : World) : SWO (ltOf (AT.cf (N := N) (W := W))) where
  irrefl x := by rw [AT.nlt_iff, cmpP_self]; omega
  trans x y z h1 h2 := by rw [AT.lt_iff] at *; exact cmpP_trans h1 h2
  ntrans x y z h1 h2 := by
    rw [AT.nlt_iff] at *
    have r1 := cmpP_ok.rng x.1.p y.1.p
    have r2 := cmpP_ok.rng y.1.p z.1.p
    have := (orders_ok x.1.p y.1.p z.1.p).2.2.2.2.2 (by omega) (by omega)
    omega
theorem AT.e_len {N : Nat} {W : World} (x : AT N W) : (AT.e x).length = 5 := rfl

theorem flat_eq {N : Nat} {W : World} (d : Array (AT N W)) : (flatK AT.e 5 d).toList = (d.toList.map (·.1)).flatMap PosA.enc := by
  apply List.ext_getElem?
  intro j
  obtain ⟨a, c, hc, rfl⟩ : ∃ a c, c < 5 ∧ j = a * 5 + c := ⟨j / 5, j % 5, Nat.mod_lt _ (by omega), by omega⟩
  rw [Array.getElem?_toList]
  by_cases ha : a < d.size
  · have hlt : a * 5 + c < d.size * 5 := by omega
    rw [fm_get PosA.enc_len _ a c (by simpa using ha) hc]
    have h1 : (flatK AT.e 5 d)[a * 5 + c]? = some ((flatK AT.e 5 d)[a * 5 + c]!) := by
      rw [getElem!_pos (flatK AT.e 5 d) (a * 5 + c) (by simpa using hlt)]
      exact Array.getElem?_eq_getElem _
    rw [h1, get_flatK AT.e 5 d _ hlt]
    have e1 : (a * 5 + c) / 5 = a := by omega
    have e2 : (a * 5 + c) % 5 = c := by omega
    rw [e1, e2, getElem!_pos d a ha]
    have hc5 : c < (AT.e d[a]).length := by rw [AT.e_len]; exact hc
    rw [getElem!_pos (AT.e d[a]) c hc5]
    simp only [List.getElem_map, Array.getElem_toList]
    exact (List.getElem?_eq_getElem hc5).symm
  · rw [Array.getElem?_eq_none (by simp; omega), List.getElem?_eq_none (by rw [fm_length PosA.enc_len]; simp; omega)]

theorem holds_own {N n g cap : Nat} {W w : World} {L : List PosA} {d : Array (AT N W)} (hd : d.toList.map (·.1) = L) (h : OwnPs n w (.slice (some ⟨g, 0, none⟩) L.length cap) L) : HoldsK AT.e 5 w g 0 d := by
  subst hd
  intro j hj
  rw [size_flatK] at hj
  have hl : (d.toList.map (·.1)).length = d.size := by simp
  refine ⟨?_, by rw [Nat.zero_add]; exact h.frozen j⟩
  rw [Nat.zero_add, World.ownsRow.cellAt h j (by rw [hl]; exact hj), ← flat_eq, Array.getElem?_toList, getElem!_pos (flatK AT.e 5 d) j (by simpa using hj)]
  exact Array.getElem?_eq_getElem _

theorem sorted_heap {N : Nat} {W w : World} {g n : Nat} {os : Array Obj} {cur : Array Value} {e : TypeId} {fr : Nat × Nat} (d : Array (AT N W)) (hb : w.heap[g]? = some (.cells cur e fr)) :
    (sortWorldK AT.e 5 w g 0 n d os).heap[g]? = some (.cells (putCells id 0 (flatK AT.e 5 d) cur) e fr) := by
  have hg : g < w.heap.size := (Array.getElem?_eq_some_iff.1 hb).1
  unfold sortWorldK putRowK
  rw [heap_grow_old _ _ (by simpa using hg)]
  simp [putRow, mapBlock, Sort.ahead, Array.getElem?_modify, hb, onCells]
theorem sorted_alters {N : Nat} {W w : World} {g n : Nat} {os : Array Obj} (d : Array (AT N W)) : Alters (fun k => k = g) w (sortWorldK AT.e 5 w g 0 n d os) := by
  unfold sortWorldK putRowK
  refine ⟨rfl, rfl, rfl, by simp, fun k hk hne => ?_⟩
  rw [heap_grow_old _ _ (by simpa using hk)]
  have : g ≠ k := fun e => hne e.symm
  simp [putRow, mapBlock, Sort.ahead, Array.getElem?_modify, this]
theorem take_put (cur F : Array Value) (h : F.size ≤ cur.size) : (putCells id 0 F cur).toList.take F.size = F.toList := by
  apply List.ext_getElem?
  intro j
  by_cases hj : j < F.size
  · rw [List.getElem?_take_of_lt hj, Array.getElem?_toList]
    simp [putCells, hj, show j < cur.size by omega]
  · rw [List.getElem?_take_eq_none (by omega), List.getElem?_eq_none (by simp; omega)]
theorem own_sorted {N n g cap m : Nat} {W w : World} {L : List PosA} {os : Array Obj} {d' : Array (AT N W)} (h : OwnPs n w (.slice (some ⟨g, 0, none⟩) L.length cap) L) (hs : d'.size = L.length) :
    OwnPs n (sortWorldK AT.e 5 w g 0 m d' os) (.slice (some ⟨g, 0, none⟩) L.length cap) (d'.toList.map (·.1)) := by
  have hl : (d'.toList.map (·.1)).length = L.length := by simp [hs]
  rcases h.2 with ⟨h1, _⟩ | ⟨g', cap', cur, hv, hg, hc, hnc, hcm, hcs, ht⟩
  · cases h1
  · cases hv
    refine ⟨by rw [fm_length PosA.enc_len], .inr ⟨g, cap, _, by rw [hl], hg, sorted_heap d' hc, by rw [hl]; exact hnc, hcm, by simp [putCells, hcs], ?_⟩⟩
    rw [← flat_eq, hl]
    have := take_put cur (flatK AT.e 5 d') (by simp [hs]; omega)
    rw [size_flatK, hs] at this
    exact this

theorem sort_in {N : Nat} {W w : World} {x : PosA} (hx : AOk N w x) {g n : Nat} {os : Array Obj} (d : Array (AT N W)) (hN : N ≤ w.heap.size) (hg : N ≤ g) : AOk N (sortWorldK AT.e 5 w g 0 n d os) x :=
  hx.alters (sorted_alters d) hN (fun k hk e => by have e : k = g := e; omega)
theorem cmp_lays (N g size : Nat) (w : World) (hN : N ≤ w.heap.size) (hg : N ≤ g) : CmpLays Tryz.prog 18 #[] (AT.e (N := N) (W := w)) 5 AT.cf g 0 size w := by
  intro m os dk _ x y
  have hx := sort_in (os := os) (n := m) x.2 dk hN hg
  have hy := sort_in (os := os) (n := m) y.2 dk hN hg
  have hs := (sorted_alters (w := w) (g := g) (n := m) (os := os) dk).size
  exact compare_grown x.1.p y.1.p _ _ _ _ _ _ _ _ _ _ _ _ N _ hx.fit (Nat.le_trans hN hs) hx.lies hy.lies

theorem sortF_any (L : List PosA) (g cap n N : Nat) (w : World) (hN : N ≤ w.heap.size) (hg : N ≤ g) (hOK : ∀ x ∈ L, AOk N w x) (ho : OwnPs n w (.slice (some ⟨g, 0, none⟩) L.length cap) L) (hsz : L.length < 4611686018427387904) :
    Calls Tryz.prog 41 #[.slice (some ⟨g, 0, none⟩) L.length cap, .func (.func 18) #[] #[]] w fun e w' => e = .returned (.tuple #[]) ∧ ∃ L' : List PosA, L'.Perm L ∧
      (∀ i j (hj : j < L'.length) (hij : i < j), cmpP L'[j].p (L'[i]'(by omega)).p ≠ -1) ∧ OwnPs n w' (.slice (some ⟨g, 0, none⟩) L.length cap) L' ∧ Alters (fun k => k = g) w w' := by
  obtain ⟨d, hd⟩ : ∃ d : Array (AT N w), d.toList.map (·.1) = L := ⟨(L.attach.map fun x => (⟨x.1, hOK x.1 x.2⟩ : AT N w)).toArray, by simp [Function.comp_def]⟩
  have hsd : d.size = L.length := by rw [← hd]; simp
  have eg : ∀ args w, (callFunc 18 args).run Tryz.prog w = .ok (.enter 18 args) w := enters_of Tryz.func18 (by kernel_rfl) rfl
  have hcon := AnyQ.slices_SortFunc Tryz.sortPos 5 Tryz.isAgg32 Tryz.sizeOf32 (AT.e (N := N) (W := w)) (fun _ => rfl) (fun x v hv => x.1.enc_one v hv) AT.cf (AT.swo N w) 18 #[] g 0 cap d w eg (cmp_lays N g d.size w hN hg) (holds_own hd ho) (World.ownsRow.lt ho g rfl).2 (by rw [hsd]; exact hsz)
  rw [hsd] at hcon
  refine Calls.mono hcon ?_
  rintro e w' ⟨rfl, d', m, os, hp, hs, rfl⟩
  have hs' : d'.size = L.length := hp.1.trans hsd
  refine ⟨rfl, d'.toList.map (·.1), ?_, ?_, own_sorted ho hs', sorted_alters d'⟩
  · have h3 := hp.2.2
    rw [← hsd] at h3
    have e1 : d'.extract 0 d.size = d' := by rw [← hp.1]; simp
    have e2 : d.extract 0 d.size = d := by simp
    rw [e1, e2] at h3
    rw [← hd]
    exact h3.map _
  · intro i j hj hij
    have hj' : j < d'.size := by simpa using hj
    have := hs i j (Nat.zero_le _) hij (by omega)
    rw [AT.nlt_iff, getElem!_pos d' j hj', getElem!_pos d' i (by omega)] at this
    simpa using this
end Go.Proofs.YtphhkfelpckilaaGreatDoor
