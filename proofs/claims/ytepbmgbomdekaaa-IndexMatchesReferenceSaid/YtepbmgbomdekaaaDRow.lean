/-
  Lists of positions in memory: five cells each, one after the other.
-/
import Derived.Test.YtepbmgbomdekaaaXBx
import Derived.Test.YtepbmgbomdekaaaOrdS
namespace Go.Proofs.Ytepbmgbomdekaaa
open Go Go.RowKit

section
variable {α : Type} {enc : α → List Value} {k : Nat}
theorem fm_length (h : ∀ x, (enc x).length = k) (L : List α) : (L.flatMap enc).length = L.length * k := by
  induction L with
  | nil => simp
  | cons x L ih => rw [List.flatMap_cons, List.length_append, ih, h, List.length_cons, Nat.succ_mul, Nat.add_comm]
theorem fm_get (h : ∀ x, (enc x).length = k) : ∀ (L : List α) (i c : Nat) (hi : i < L.length), c < k → (L.flatMap enc)[i * k + c]? = (enc L[i])[c]?
  | [], i, c, hi, _ => by simp at hi
  | x :: L, 0, c, _, hc => by
    rw [List.flatMap_cons, Nat.zero_mul, Nat.zero_add, List.getElem?_append_left (by rw [h]; exact hc)]
    rfl
  | x :: L, i + 1, c, hi, hc => by
    have hi' : i < L.length := by simpa using hi
    rw [List.flatMap_cons, List.getElem?_append_right (by rw [h, Nat.succ_mul]; omega), h]
    have e : (i + 1) * k + c - k = i * k + c := by rw [Nat.succ_mul]; omega
    rw [e, fm_get h L i c hi' hc]
    rfl
end

/-- A position and the places of its lists. -/
structure PosA where
  p : PosS
  a : Option Addr
  a0 : Option Addr
  a1 : Option Addr
  c : Nat
  c0 : Nat
  c1 : Nat
def PosA.val (x : PosA) : Value := PosV x.a x.a0 x.a1 x.c x.c0 x.c1 x.p
def PosA.enc (x : PosA) : List Value := [.slice x.a x.p.cells.length x.c, .slice x.a0 x.p.h0.length x.c0, .slice x.a1 x.p.h1.length x.c1, .int .i64 x.p.rights, .int .i64 x.p.side]
theorem PosA.val_eq (x : PosA) : x.val = .agg x.enc.toArray := rfl
theorem PosA.enc_len (x : PosA) : x.enc.length = 5 := rfl
theorem PosA.enc_one (x : PosA) : ∀ v ∈ x.enc, v.oneCell' = true := by
  intro v hv
  simp only [PosA.enc, List.mem_cons, List.not_mem_nil, or_false] at hv
  rcases hv with rfl | rfl | rfl | rfl | rfl <;> rfl
/-- Its lists lie in blocks below N. -/
structure AOk (N : Nat) (W : World) (x : PosA) : Prop where
  fit : PosFit x.p
  lies : PosIn N W x.a x.a0 x.a1 x.p
theorem AOk.up {N : Nat} {W W' : World} {x : PosA} (h : AOk N W x) (hN : N ≤ W.heap.size) (hb : Below W.heap.size W W') : AOk N W' x := ⟨h.fit, h.lies.up hN hb⟩
theorem AOk.mono {N M : Nat} {W : World} {x : PosA} (h : AOk N W x) (hm : N ≤ M) : AOk M W x := ⟨h.fit, ⟨h.lies.cells.mono hm, h.lies.h0.mono hm, h.lies.h1.mono hm⟩⟩
theorem Ints.alters_ {N : Nat} {A B : World} {a : Option Addr} {l : List Int} {S : Nat → Prop} (h : Ints N A a l) (ha : Alters S A B) (hN : N ≤ A.heap.size) (hS : ∀ k, k < N → ¬ S k) : Ints N B a l :=
  h.keep (P := fun k => k < N) (ha.keep (fun k hk => ⟨Nat.lt_of_lt_of_le hk hN, hS k hk⟩)) (fun _ h => h)
theorem AOk.alters {N : Nat} {A B : World} {x : PosA} {S : Nat → Prop} (h : AOk N A x) (ha : Alters S A B) (hN : N ≤ A.heap.size) (hS : ∀ k, k < N → ¬ S k) : AOk N B x :=
  ⟨h.fit, h.lies.cells.alters_ ha hN hS, h.lies.h0.alters_ ha hN hS, h.lies.h1.alters_ ha hN hS⟩

/-- A list of positions that the call owns. -/
def OwnPs (n : Nat) (W : World) (v : Value) (L : List PosA) : Prop := W.ownsRow n 27 5 v L.length (L.flatMap PosA.enc)

theorem OwnPs.cell {n : Nat} {W : World} {g cap : Nat} {L : List PosA} (h : OwnPs n W (.slice (some ⟨g, 0, none⟩) L.length cap) L) {i c : Nat} (hi : i < L.length) (hc : c < 5) : W.cell? ⟨g, i * 5 + c, none⟩ = (PosA.enc L[i])[c]? := by
  rw [World.ownsRow.cellAt h (i * 5 + c) (by omega), fm_get PosA.enc_len L i c hi hc]
theorem OwnPs.frozen {n : Nat} {W : World} {g cap : Nat} {L : List PosA} (h : OwnPs n W (.slice (some ⟨g, 0, none⟩) L.length cap) L) (j : Nat) : W.frozen? ⟨g, j, none⟩ = false := World.ownsRow.frozenAt h j
theorem OwnPs.mono {n m : Nat} {W : World} {v : Value} {L : List PosA} (h : OwnPs n W v L) (hm : m ≤ n) : OwnPs m W v L := by
  refine ⟨h.1, ?_⟩
  rcases h.2 with h2 | ⟨g, cap, cur, hv, hg, r⟩
  · exact .inl h2
  · exact .inr ⟨g, cap, cur, hv, Nat.le_trans hm hg, r⟩
theorem OwnPs.alters {n : Nat} {W W' : World} {v : Value} {L : List PosA} (h : OwnPs n W v L) {S : Nat → Prop} (ha : Alters S W W') (hS : ∀ k, S k → ¬ some k = v.ownBlock) : OwnPs n W' v L := by
  refine ⟨h.1, ?_⟩
  rcases h.2 with h2 | ⟨g, cap, cur, rfl, hg, hc, r⟩
  · exact .inl h2
  · exact .inr ⟨g, cap, cur, rfl, hg, (ha.block g (Array.getElem?_eq_some_iff.1 hc).1 (fun hs => hS g hs rfl)).trans hc, r⟩
theorem OwnPs.up {n : Nat} {W W' : World} {v : Value} {L : List PosA} (h : OwnPs n W v L) (hb : Below W.heap.size W W') : OwnPs n W' v L := h.alters (S := fun _ => False) (Alters.of_below hb) (fun _ h => h.elim)
/-- Five stores, one element. -/
def setAt (W : World) (g i : Nat) (x : PosA) : World := ((((W.setCell ⟨g, i * 5, none⟩ (.slice x.a x.p.cells.length x.c)).setCell ⟨g, i * 5 + 1, none⟩ (.slice x.a0 x.p.h0.length x.c0)).setCell ⟨g, i * 5 + 2, none⟩ (.slice x.a1 x.p.h1.length x.c1)).setCell ⟨g, i * 5 + 3, none⟩ (.int .i64 x.p.rights)).setCell ⟨g, i * 5 + 4, none⟩ (.int .i64 x.p.side)
theorem setAt_alters (W : World) (g i : Nat) (x : PosA) : Alters (fun k => k = g) W (setAt W g i x) :=
  ((((alters_cell W g _ _).trans (alters_cell _ g _ _)).trans (alters_cell _ g _ _)).trans (alters_cell _ g _ _)).trans (alters_cell _ g _ _)
theorem fm_set (L : List PosA) (i : Nat) (hi : i < L.length) (x : PosA) :
    (((((L.flatMap PosA.enc).set (i * 5) (.slice x.a x.p.cells.length x.c)).set (i * 5 + 1) (.slice x.a0 x.p.h0.length x.c0)).set (i * 5 + 2) (.slice x.a1 x.p.h1.length x.c1)).set (i * 5 + 3) (.int .i64 x.p.rights)).set (i * 5 + 4) (.int .i64 x.p.side) = (L.set i x).flatMap PosA.enc := by
  have hl := fm_length PosA.enc_len L
  apply List.ext_getElem?
  intro j
  obtain ⟨a, c, hc, rfl⟩ : ∃ a c, c < 5 ∧ j = a * 5 + c := ⟨j / 5, j % 5, Nat.mod_lt _ (by omega), by omega⟩
  simp only [List.getElem?_set, List.length_set]
  by_cases ha : a < L.length
  · rw [fm_get PosA.enc_len (L.set i x) a c (by simpa using ha) hc, fm_get PosA.enc_len L a c ha hc, hl]
    by_cases e : a = i
    · subst e
      rw [List.getElem_set_self]
      have : c = 0 ∨ c = 1 ∨ c = 2 ∨ c = 3 ∨ c = 4 := by omega
      rcases this with rfl | rfl | rfl | rfl | rfl <;> simp [PosA.enc] <;> omega
    · rw [List.getElem_set_ne (fun h => e h.symm)]
      repeat rw [if_neg (by omega)]
  · have e1 : (L.flatMap PosA.enc)[a * 5 + c]? = none := List.getElem?_eq_none (by rw [hl]; omega)
    have e2 : ((L.set i x).flatMap PosA.enc)[a * 5 + c]? = none := List.getElem?_eq_none (by rw [fm_length PosA.enc_len, List.length_set]; omega)
    rw [e1, e2]
    repeat rw [if_neg (by omega)]
theorem OwnPs.set {n : Nat} {W : World} {g cap : Nat} {L : List PosA} (h : OwnPs n W (.slice (some ⟨g, 0, none⟩) L.length cap) L) {i : Nat} (hi : i < L.length) (x : PosA) : OwnPs n (setAt W g i x) (.slice (some ⟨g, 0, none⟩) L.length cap) (L.set i x) := by
  unfold OwnPs
  rw [← fm_set L i hi x, List.length_set]
  exact (World.ownsRow.stored (World.ownsRow.stored (World.ownsRow.stored (World.ownsRow.stored (World.ownsRow.stored h _ _).1 _ _).1 _ _).1 _ _).1 _ _).1
/-- The first m of them. -/
theorem OwnPs.take {n : Nat} {W : World} {g cap : Nat} {L : List PosA} (h : OwnPs n W (.slice (some ⟨g, 0, none⟩) L.length cap) L) {m : Nat} (hm : m ≤ L.length) : OwnPs n W (.slice (some ⟨g, 0, none⟩) m cap) (L.take m) := by
  have hlm : (L.take m).length = m := by simp; omega
  rcases h.2 with ⟨h1, _⟩ | ⟨g', cap', cur, hv, hg, hc, hnc, hcm, hcs, ht⟩
  · cases h1
  · cases hv
    refine ⟨by rw [fm_length PosA.enc_len], .inr ⟨g, cap, cur, by rw [hlm], hg, hc, by rw [hlm]; omega, hcm, hcs, ?_⟩⟩
    rw [hlm]
    have e : (L.take m).flatMap PosA.enc = (L.flatMap PosA.enc).take (m * 5) := by
      conv => rhs; rw [← List.take_append_drop m L, List.flatMap_append]
      rw [List.take_left']
      rw [fm_length PosA.enc_len, hlm]
    rw [e, ← ht, List.take_take]
    congr 1
    omega
end Go.Proofs.Ytepbmgbomdekaaa
