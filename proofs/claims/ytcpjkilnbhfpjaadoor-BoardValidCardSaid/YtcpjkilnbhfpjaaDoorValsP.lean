/-
  A board that Wild made, of which one number, or one list's length, is changed: memory holds the changed board.
-/
import Derived.Test.YtcpjkilnbhfpjaaDoorWild
namespace Go.Proofs.YtcpjkilnbhfpjaaDoor
open Go Go.RowKit Go.Shelf

theorem Ints.take {n : Nat} {W : World} {a : Option Addr} {l : List Int} (h : Ints n W a l) (i : Nat) : Ints n W a (l.take i) := by
  rcases h with rfl | ⟨b, off, e, hn, hc⟩
  · exact .inl (by simp)
  · refine .inr ⟨b, off, e, hn, fun j hj => ?_⟩
    have hj' : j < i ∧ j < l.length := by simp at hj; omega
    rw [List.getElem?_take, if_pos hj'.1]
    exact hc j hj'.2

/-- .. and all of them lie below M. -/
def MadeUp (h M : Nat) (W : World) (on ot : Value) (B : Brd) : Prop := ∃ vs, RowsN h W on B.next vs ∧ OwnInts h W ot B.turn ∧ Apart vs ∧ (∀ k, some k = ot.ownBlock → ∀ v ∈ vs, ¬ some k = v.ownBlock) ∧
  (∀ k, some k = on.ownBlock → k < M) ∧ (∀ k, some k = ot.ownBlock → k < M) ∧ ∀ v ∈ vs, ∀ k, some k = v.ownBlock → k < M
theorem MadeIn.up_ {h : Nat} {W : World} {on ot : Value} {B : Brd} (hm : MadeIn h W on ot B) : MadeUp h W.heap.size W on ot B := by
  obtain ⟨vs, hr, ht, hap, ha⟩ := hm
  refine ⟨vs, hr, ht, hap, ha, fun k hk => (World.ownsRow.lt hr.outer k hk.symm).2, fun k hk => (World.ownsRow.lt ht k hk.symm).2, fun v hv k hk => ?_⟩
  obtain ⟨i, hi⟩ := List.getElem?_of_mem hv
  exact (World.ownsRow.lt (hr.own i v hi) k hk.symm).2
theorem MadeUp.made {h M : Nat} {W : World} {on ot : Value} {B : Brd} (hm : MadeUp h M W on ot B) : MadeIn h W on ot B := by
  obtain ⟨vs, h1, h2, h3, h4, _⟩ := hm
  exact ⟨vs, h1, h2, h3, h4⟩
theorem MadeUp.below {h M : Nat} {W W' : World} {on ot : Value} {B : Brd} (hm : MadeUp h M W on ot B) (hb : Below W.heap.size W W') : MadeUp h M W' on ot B := by
  obtain ⟨vs, hr, ht, hap, ha, m1, m2, m3⟩ := hm
  have hal : Alters (fun _ => False) W W' := Alters.of_below hb
  exact ⟨vs, hr.alters (S := fun _ => False) hal (fun _ h => h.elim) (fun _ h => h.elim), ht.alters hal (fun _ h => h.elim), hap, ha, m1, m2, m3⟩

theorem MadeUp.alters {h M : Nat} {W W' : World} {on ot : Value} {B : Brd} (hm : MadeUp h M W on ot B) {S : Nat → Prop} (ha : Alters S W W') (hS : ∀ k, S k → M ≤ k) : MadeUp h M W' on ot B := by
  obtain ⟨vs, hr, ht, hap, hpa, m1, m2, m3⟩ := hm
  exact ⟨vs, hr.alters ha (fun k hk e => by have := hS k hk; have := m1 k e; omega) (fun k hk v hv e => by have := hS k hk; have := m3 v hv k e; omega), ht.alters ha (fun k hk e => by have := hS k hk; have := m2 k e; omega), hap, hpa, m1, m2, m3⟩
theorem MadeUp.turn_cap {h M : Nat} {W : World} {on : Value} {a : Option Addr} {k ct : Nat} {B : Brd} (hm : MadeUp h M W on (.slice a k ct) B) : k ≤ ct := by
  obtain ⟨vs, hr, ht, _⟩ := hm
  rcases ht.2 with ⟨h0, _⟩ | ⟨g, cap, cur, e, _, _, h2, _⟩
  · cases h0; omega
  · cases e; simpa using h2

/-- A turn is stored. -/
theorem MadeUp.put_turn {h M : Nat} {W : World} {on : Value} {g k cap : Nat} {B : Brd} (hm : MadeUp h M W on (.slice (some ⟨g, 0, none⟩) k cap) B) (j : Nat) (x : Int) :
    MadeUp h M (W.setCell ⟨g, j, none⟩ (.int .i64 x)) on (.slice (some ⟨g, 0, none⟩) k cap) { B with turn := B.turn.set j x } := by
  obtain ⟨vs, hr, ht, hap, ha, m1, m2, m3⟩ := hm
  have hal := alters_cell W g j (.int .i64 x)
  exact ⟨vs, hr.alters hal (fun k hk e => hr.apart ht e (by rw [hk]; rfl)) (fun k hk v hv => ha k (by rw [hk]; rfl) v hv), ht.set j x, hap, ha, m1, m2, m3⟩

theorem MadeUp.turn_form {h M : Nat} {W : World} {on ot : Value} {B : Brd} (hm : MadeUp h M W on ot B) (h1 : 1 ≤ B.turn.length) :
    ∃ g ct, ot = .slice (some ⟨g, 0, none⟩) B.turn.length ct ∧ h ≤ g ∧ g < M ∧ ∀ j, j < B.turn.length → W.cell? ⟨g, j, none⟩ = some (.int .i64 (B.turn[j]?.getD 0)) ∧ W.frozen? ⟨g, j, none⟩ = false := by
  obtain ⟨vs, hr, ht, hap, ha, m1, m2, m3⟩ := hm
  rcases ht.form with ⟨_, h0⟩ | ⟨g, cap, rfl, hg, hl⟩
  · rw [h0] at h1; simp at h1
  · exact ⟨g, cap, rfl, hg, m2 g rfl, fun j hj => OwnInts.cellAt ht hj⟩

/-- One of the rows: where it lies; a number is stored in it, or it is cut. -/
theorem MadeUp.row {h M : Nat} {W : World} {on ot : Value} {B : Brd} (hm : MadeUp h M W on ot B) {d : Nat} (hd : d < B.next.length) (h1 : 1 ≤ (B.next[d]?.getD []).length) :
    ∃ q cn g cr, on = .slice (some ⟨q, 0, none⟩) B.next.length cn ∧ h ≤ q ∧ q < M ∧ W.cell? ⟨q, d, none⟩ = some (.slice (some ⟨g, 0, none⟩) (B.next[d]?.getD []).length cr) ∧ W.frozen? ⟨q, d, none⟩ = false ∧ h ≤ g ∧ g < M ∧ (B.next[d]?.getD []).length ≤ cr ∧
      (∀ j, j < (B.next[d]?.getD []).length → W.cell? ⟨g, j, none⟩ = some (.int .i64 ((B.next[d]?.getD [])[j]?.getD 0)) ∧ W.frozen? ⟨g, j, none⟩ = false) ∧
      (∀ j x, MadeUp h M (W.setCell ⟨g, j, none⟩ (.int .i64 x)) on ot { B with next := B.next.set d ((B.next[d]?.getD []).set j x) }) ∧
      ∀ i, i ≤ (B.next[d]?.getD []).length → ∃ at_ ct, ot = .slice at_ B.turn.length ct ∧ Held W.heap.size (W.setCell ⟨q, d, none⟩ (.slice (some ⟨g, 0, none⟩) i cr)) (some ⟨q, 0, none⟩) at_ { B with next := B.next.set d ((B.next[d]?.getD []).take i) } := by
  obtain ⟨vs, hr, ht, hap, ha, m1, m2, m3⟩ := hm
  have hvl := hr.vlen
  generalize hrow : B.next[d]?.getD [] = r at *
  rcases hr.outer.2 with ⟨rfl, h0⟩ | ⟨q, cap, cur, rfl, hg, hc, _⟩
  · omega
  obtain ⟨v, hv⟩ : ∃ v, vs[d]? = some v := ⟨vs[d], by simp [hvl, hd]⟩
  have hown := hr.own d v hv
  rw [hrow] at hown
  have hvm := List.mem_of_getElem? hv
  rcases hown.form with ⟨_, h0⟩ | ⟨g, cr, rfl, hgh, hgl⟩
  · rw [h0] at h1; simp at h1
  have hqg : ¬ q = g := fun e => hr.apart hown (k := q) rfl (by rw [e]; rfl)
  have hcr : r.length ≤ cr := by
    rcases hown.2 with ⟨h0, _⟩ | ⟨g', cap', cur', e, _, _, h2, _⟩
    · cases h0
    · cases e; exact h2
  have hcell := World.ownsRow.cellAt hr.outer d (by omega)
  have hbx : W.cell? ⟨q, d, none⟩ = some (.slice (some ⟨g, 0, none⟩) r.length cr) := by rw [hcell, hv]
  have hfz : W.frozen? ⟨q, d, none⟩ = false := by unfold World.frozen?; rw [hc]; simp
  refine ⟨q, cap, g, cr, rfl, hg, m1 q rfl, hbx, hfz, hgh, m3 _ hvm g rfl, hcr, fun j hj => OwnInts.cellAt hown hj, fun j x => ?_, fun i hi => ?_⟩
  · have hal := alters_cell W g j (.int .i64 x)
    refine ⟨vs, ⟨?_, fun i u hu => ?_⟩, ht.alters hal (fun k hk e => ha k e _ hvm (by rw [hk]; rfl)), hap, ha, m1, m2, m3⟩
    · have := rows_outer hr.outer hal (fun k hk e => hr.apart hown e (by rw [hk]; rfl))
      simpa using this
    · by_cases hid : i = d
      · subst hid
        rw [hv] at hu
        cases hu
        have e : (B.next.set i (r.set j x))[i]?.getD [] = r.set j x := by simp [hd]
        show OwnInts h _ _ ((B.next.set i (r.set j x))[i]?.getD [])
        rw [e]
        have := hown.set j x
        exact this
      · have e : (B.next.set d (r.set j x))[i]?.getD [] = B.next[i]?.getD [] := by rw [List.getElem?_set_ne (by omega)]
        show OwnInts h _ _ ((B.next.set d (r.set j x))[i]?.getD [])
        rw [e]
        exact (hr.own i u hu).alters hal (fun k hk e2 => hap d i _ u hv hu (by omega) k (by rw [hk]; rfl) e2)
  · obtain ⟨at_, ct, rfl, hI⟩ := ht.ints
    have hal := alters_cell W q d (.slice (some ⟨g, 0, none⟩) i cr)
    refine ⟨at_, ct, rfl, ?_, ?_⟩
    · refine .inr ⟨q, 0, rfl, (Array.getElem?_eq_some_iff.1 hc).1, fun j hj => ?_⟩
      have hj' : j < B.next.length := by simpa using hj
      have hin : ∀ u, vs[j]? = some u → ∃ a c, u = .slice a (B.next[j]?.getD []).length c ∧ Ints W.heap.size (W.setCell ⟨q, d, none⟩ (.slice (some ⟨g, 0, none⟩) i cr)) a (B.next[j]?.getD []) := by
        intro u hu
        have h2 := (hr.own j u hu).alters hal (fun k hk e => hr.apart (hr.own j u hu) (k := q) rfl (by rw [← e, hk]))
        obtain ⟨a, c, h3, h4⟩ := h2.ints
        exact ⟨a, c, h3, h4.mono (by simp [World.setCell])⟩
      by_cases hjd : j = d
      · subst hjd
        obtain ⟨a, c, h3, h4⟩ := hin _ hv
        rw [hrow] at h3 h4
        cases h3
        have e : ({ B with next := B.next.set j (r.take i) } : Brd).next[j]?.getD [] = r.take i := by simp [hd]
        rw [e]
        refine ⟨_, cr, ?_, h4.take i⟩
        have hl : (r.take i).length = i := by simp; omega
        rw [hl, Nat.zero_add]
        exact World.cell?_setCell_same _ _ _ hbx
      · have e : ({ B with next := B.next.set d (r.take i) } : Brd).next[j]?.getD [] = B.next[j]?.getD [] := by
          show (B.next.set d (r.take i))[j]?.getD [] = _
          rw [List.getElem?_set_ne (by omega)]
        rw [e]
        obtain ⟨u, hu⟩ : ∃ u, vs[j]? = some u := ⟨vs[j], by simp [hvl, hj']⟩
        obtain ⟨a, c, rfl, h4⟩ := hin u hu
        refine ⟨a, c, ?_, h4⟩
        have hcj := World.ownsRow.cellAt hr.outer j (by omega)
        rw [hu] at hcj
        rw [Nat.zero_add]
        rw [← hcj]
        exact World.cell?_setCell_other _ _ _ _ (by intro e; cases e; exact hjd rfl)
    · have h2 := ht.alters hal (fun k hk e => hr.apart ht (k := q) rfl (by rw [← e, hk]))
      obtain ⟨a, c, h3, h4⟩ := h2.ints
      cases h3
      exact h4.mono (by simp [World.setCell])
end Go.Proofs.YtcpjkilnbhfpjaaDoor
