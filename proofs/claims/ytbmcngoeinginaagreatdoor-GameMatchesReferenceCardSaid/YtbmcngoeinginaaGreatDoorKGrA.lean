/-
 The game that the reference's reader puts together: its lists, each in blocks of the call's own.
-/
import Derived.Test.YtbmcngoeinginaaGreatDoorKLst
import Derived.Test.YtbmcngoeinginaaGreatDoorKPs
import Derived.Test.YtbmcngoeinginaaGreatDoorCRea
import Derived.Test.YtbmcngoeinginaaGreatDoorCLns
namespace Go.Proofs.YtbmcngoeinginaaGreatDoor
open Go Go.RowKit Go.Lib
def gcs (g : GameD) (vn vt vk vc : Value) : Array Value := #[.int .i64 g.b.cells, vn, vt, vk, .int .i64 g.rights, .bool g.must, vc, .int .i64 g.blocked, .int .i64 g.endless]
structure OwnD (h : Nat) (W : World) (vn vt vk vc : Value) (g : GameD) : Prop where
 next : NextOwn h W vn g.b.next
 turn : OwnInts h W vt g.b.turn
 kinds : KindsOwn h W vk g.kinds
 clauses : W.ownsRow h 70 4 vc g.clauses.length (flatC g.clauses)
structure NotTs (S : Nat → Prop) (W : World) : Prop where
 a : NotT 32 S W
 b : NotT 3 S W
 c : NotT 63 S W
 d : NotT 68 S W
 e : NotT 91 S W
 f : NotT 70 S W
theorem OwnD.alt {h : Nat} {W W' : World} {vn vt vk vc : Value} {g : GameD} {S : Nat → Prop} (hO : OwnD h W vn vt vk vc g) (ha : Alters S W W') (hS : NotTs S W) : OwnD h W' vn vt vk vc g :=
 ⟨hO.next.alt ha hS.a hS.b, own_alt hO.turn ha hS.b, hO.kinds.alt ha hS.c hS.d hS.e, own_alt hO.clauses ha hS.f⟩
theorem OwnD.up {h : Nat} {W W' : World} {vn vt vk vc : Value} {g : GameD} (hO : OwnD h W vn vt vk vc g) (hb : Below W.heap.size W W') : OwnD h W' vn vt vk vc g :=
 hO.alt (S := fun _ => False) (Alters.of_below hb) ⟨fun _ h => h.elim, fun _ h => h.elim, fun _ h => h.elim, fun _ h => h.elim, fun _ h => h.elim, fun _ h => h.elim⟩
theorem notT_at {r : Nat} {c : Array Value} {E : TypeId} {f : Nat × Nat} {W : World} (hx : W.heap[r]? = some (.cells c E f)) {T : TypeId} (hT : T ≠ E) : NotT T (fun b => b = r) W := fun b hb cs e => by
 have hb : b = r := hb
 subst hb
 rw [hx] at e
 cases e
 exact hT rfl
theorem notTs_box {r : Nat} {c : Array Value} {f : Nat × Nat} {W : World} (hx : W.heap[r]? = some (.cells c 38 f)) : NotTs (fun b => b = r) W :=
 ⟨notT_at hx (by decide), notT_at hx (by decide), notT_at hx (by decide), notT_at hx (by decide), notT_at hx (by decide), notT_at hx (by decide)⟩
theorem OwnD.game {h : Nat} {W : World} {vn vt vk vc : Value} {g : GameD} (hO : OwnD h W vn vt vk vc g) : ∃ x, gcs g vn vt vk vc = g.cells x ∧ GameIn W.heap.size W x g := by
 obtain ⟨an, cn, rfl, h1⟩ := hO.next.in_
 obtain ⟨at_, ct, rfl, h2⟩ := OwnInts.ints hO.turn
 obtain ⟨ak, ck, rfl, h3⟩ := hO.kinds.in_
 obtain ⟨ac, cc, rfl, h4⟩ := clauses_in hO.clauses
 exact ⟨⟨an, cn, at_, ct, ak, ck, ac, cc⟩, rfl, ⟨⟨h1, h2⟩, h3, h4⟩⟩
theorem gb_set {h r j : Nat} {W : World} {CS : Array Value} {vn vt vk vc v : Value} {g : GameD} (hx : W.heap[r]? = some (.cells CS 38 (0, 0))) (hO : OwnD h W vn vt vk vc g) (he : CS.setIfInBounds j v = gcs g vn vt vk vc) :
   (W.setCell ⟨r, j, none⟩ v).heap[r]? = some (.cells (gcs g vn vt vk vc) 38 (0, 0)) ∧ OwnD h (W.setCell ⟨r, j, none⟩ v) vn vt vk vc g :=
 ⟨by rw [bx_set_ hx j v, he], hO.alt (alters_cell W r j v) (notTs_box hx)⟩
theorem grown_alt {W W7 : World} {v : Value} (hg : W.grownBy W7 v.ownBlock) : Alters (fun b => some b = v.ownBlock) W W7 := Alters.of_grown hg
theorem grown_box {h size k r : Nat} {W W7 : World} {e : TypeId} {v : Value} {xs : List Value} {c : Array Value} {T : TypeId} {f : Nat × Nat} (ho : W.ownsRow h e size v k xs) (hg : W.grownBy W7 v.ownBlock) (hx : W.heap[r]? = some (.cells c T f)) (hT : e ≠ T) : W7.heap[r]? = some (.cells c T f) :=
 (hg.block r (Array.getElem?_eq_some_iff.1 hx).1 (fun e1 => by
   obtain ⟨cs, e2⟩ := own_has_ ho e1;rw [hx] at e2
   cases e2
   exact hT rfl)).trans hx
theorem grown_low {h size k : Nat} {W W7 : World} {e : TypeId} {v : Value} {xs : List Value} (ho : W.ownsRow h e size v k xs) (hg : W.grownBy W7 v.ownBlock) (hh : h ≤ W.heap.size) : Below h W W7 :=
 (Alters.of_grown hg).below hh (fun b hb => (World.ownsRow.lt ho b hb.symm).1)
theorem clause_more {h g7 cap : Nat} {W W7 : World} {vn vt vk vc : Value} {g : GameD} {c : ClauseD} (hO : OwnD h W vn vt vk vc g) (hg : W.grownBy W7 vc.ownBlock)
   (hown : W7.ownsRow h 70 4 (.slice (some ⟨g7, 0, none⟩) (g.clauses.length + 1) cap) (g.clauses.length + 1) (flatC g.clauses ++ [.int .i64 c.cond, .int .i64 c.kind, .int .i64 c.n, .int .i64 c.out])) : OwnD h W7 vn vt vk (.slice (some ⟨g7, 0, none⟩) (g.clauses.length + 1) cap) { g with clauses := g.clauses ++ [c] } := by
 have ha := grown_alt hg
 have hc := hO.clauses
 refine ⟨hO.next.alt ha (notT_own hc (by decide)) (notT_own hc (by decide)), own_alt hO.turn ha (notT_own hc (by decide)), hO.kinds.alt ha (notT_own hc (by decide)) (notT_own hc (by decide)) (notT_own hc (by decide)), ?_⟩
 show W7.ownsRow h 70 4 _ (g.clauses ++ [c]).length (flatC (g.clauses ++ [c]))
 rw [flatC_snoc, List.length_append]
 exact hown
theorem next_more {h g7 cap : Nat} {W W7 : World} {vn vt vk vc vr : Value} {g : GameD} {l : List Int} {rows : List Value} (hO : OwnD h W vn vt vk vc g) (hrow : OwnInts h W vr l) (hrs : W.ownsRow h 32 1 vn g.b.next.length rows ∧ ∀ j (hj : j < g.b.next.length), ∃ v, rows[j]? = some v ∧ OwnInts h W v (g.b.next[j]'hj)) (hg : W.grownBy W7 vn.ownBlock)
   (hown : W7.ownsRow h 32 1 (.slice (some ⟨g7, 0, none⟩) (g.b.next.length + 1) cap) (g.b.next.length + 1) (rows ++ [vr])) : OwnD h W7 (.slice (some ⟨g7, 0, none⟩) (g.b.next.length + 1) cap) vt vk vc { g with b := { g.b with next := g.b.next ++ [l] } } := by
 have ha := grown_alt hg
 obtain ⟨hc, hr⟩ := hrs
 have hlr : rows.length = g.b.next.length := by have := hc.1; omega
 refine ⟨⟨rows ++ [vr], by rw [List.length_append]; exact hown, fun j hj => ?_⟩, own_alt hO.turn ha (notT_own hc (by decide)), hO.kinds.alt ha (notT_own hc (by decide)) (notT_own hc (by decide)) (notT_own hc (by decide)), own_alt hO.clauses ha (notT_own hc (by decide))⟩
 rcases Nat.lt_or_ge j g.b.next.length with hlt | hge
 · obtain ⟨v, e, hv⟩ := hr j hlt
   refine ⟨v, by rw [List.getElem?_append_left (by omega)]; exact e, ?_⟩
   rw [List.getElem_append_left hlt];exact own_alt hv ha (notT_own hc (by decide))
 · have hj : j < g.b.next.length + 1 := by simpa using hj
   have hj : j = g.b.next.length := by omega
   subst hj
   refine ⟨vr, by rw [← hlr]; simp, ?_⟩
   simp only [List.getElem_concat_length];exact own_alt hrow ha (notT_own hc (by decide))
theorem kind_more {h g7 cap : Nat} {W W7 : World} {vn vt vk vc : Value} {g : GameD} {nm : List UInt8} {kp : Bool} {pvs : List Value} (hO : OwnD h W vn vt vk vc g) (hl : pvs.length = g.kinds.length) (ho : W.ownsRow h 63 3 vk g.kinds.length (flatK g.kinds pvs))
   (hp : ∀ i (hi : i < g.kinds.length), ∃ pv, pvs[i]? = some pv ∧ ProgsOwn h W pv (g.kinds[i]'hi).progs) (hap : ∀ (i j : Nat) (p q : Value), i < j → pvs[i]? = some p → pvs[j]? = some q → ∀ b, some b = p.ownBlock → ¬ some b = q.ownBlock) (hg : W.grownBy W7 vk.ownBlock)
   (hown : W7.ownsRow h 63 3 (.slice (some ⟨g7, 0, none⟩) (g.kinds.length + 1) cap) (g.kinds.length + 1) (flatK g.kinds pvs ++ [.string ⟨nm.toArray⟩, .slice none 0 0, .bool kp])) : OwnD h W7 vn vt (.slice (some ⟨g7, 0, none⟩) (g.kinds.length + 1) cap) vc { g with kinds := g.kinds ++ [⟨nm, [], kp⟩] } := by
 have ha := grown_alt hg
 have hnS : NotT 68 (fun b => some b = vk.ownBlock) W := notT_own ho (by decide)
 have hnT : NotT 91 (fun b => some b = vk.ownBlock) W := notT_own ho (by decide)
 refine ⟨hO.next.alt ha (notT_own ho (by decide)) (notT_own ho (by decide)), own_alt hO.turn ha (notT_own ho (by decide)), ?_, own_alt hO.clauses ha (notT_own ho (by decide))⟩
 refine ⟨pvs ++ [.slice none 0 0], by simp [hl], ?_, fun i hi => ?_, fun i j p q hij hp1 hq b hb1 hb2 => ?_⟩
 · show W7.ownsRow h 63 3 _ (g.kinds ++ [(⟨nm, [], kp⟩ : KindD)]).length _
   rw [flatK_snoc _ _ _ _ hl, List.length_append];exact hown
 · have hi : i < (g.kinds ++ [(⟨nm, [], kp⟩ : KindD)]).length := hi
   show ∃ pv, (pvs ++ [.slice none 0 0])[i]? = some pv ∧ ProgsOwn h W7 pv ((g.kinds ++ [(⟨nm, [], kp⟩ : KindD)])[i]'hi).progs
   rcases Nat.lt_or_ge i g.kinds.length with hlt | hge
   · obtain ⟨pv, e, hv⟩ := hp i hlt
     refine ⟨pv, by rw [List.getElem?_append_left (by omega)]; exact e, ?_⟩
     have := hv.alt ha (hv.apart hnS) hnT;rw [List.getElem_append_left hlt];exact this
   · have hi2 : i < g.kinds.length + 1 := by simpa using hi
     have hi3 : i = g.kinds.length := by omega
     subst hi3
     refine ⟨.slice none 0 0, by rw [← hl]; simp, ?_⟩
     simp only [List.getElem_concat_length];exact ⟨[], World.ownsRow_nil _ _ _ _, fun j hj => absurd hj (by simp)⟩
 · rcases Nat.lt_or_ge j pvs.length with hlt | hge
   · rw [List.getElem?_append_left hlt] at hq
     rw [List.getElem?_append_left (by omega)] at hp1;exact hap i j p q hij hp1 hq b hb1 hb2
   · rw [List.getElem?_append_right hge] at hq
     rcases Nat.eq_zero_or_pos (j - pvs.length) with e0 | e0
     · rw [e0] at hq
       simp at hq
       subst hq
       cases hb2
     · rw [List.getElem?_eq_none (by simp; omega)] at hq
       cases hq
theorem words_tail {W : World} {b off c m : Nat} {ws : List (List UInt8)} (hm : ws.length = m + 1) (h : WordsIn W (.slice (some ⟨b, off, none⟩) ws.length c) ws) (a2 : Option Addr) (n2 k2 : Nat) (hn : n2 = m) (hk : m ≤ k2) (ha : m = 0 ∨ a2 = some ⟨b, off + 1, none⟩) : WordsIn W (.slice a2 n2 k2) ws.tail := by
 obtain ⟨a, c', e, hc, h⟩ := h
 cases e
 have hl : ws.tail.length = m := by rw [List.length_tail]; omega
 subst hn
 refine ⟨a2, k2, by rw [hl], by rw [hl]; exact hk, ?_⟩
 rcases ha with ha | ha
 · exact .inl (List.length_eq_zero_iff.1 (by omega))
 · rcases h with h | ⟨b', off', cs, e, hb, hcell⟩
   · exact .inl (by rw [h]; rfl)
   · cases e
     refine .inr ⟨b, off + 1, cs, ha, hb, fun j hj => ?_⟩;have := hcell (j + 1) (by omega);rw [show off + 1 + j = off + (j + 1) by omega, List.getElem_tail];exact this
theorem key_cases (x : List UInt8) : (∃ i, ∃ h : i < keysK.length, keyNo x = some i ∧ x = keysK[i]) ∨ (keyNo x = none ∧ ∀ k ∈ keysK, (x == k) = false) := by
 unfold keyNo
 cases hf : keysK.findIdx? (fun k => k == x) with
 | none =>
   right
   refine ⟨rfl, fun k hk => ?_⟩;have := List.findIdx?_eq_none_iff.1 hf k hk;rw [beq_eq_false_iff_ne] at this ⊢
   exact fun e => this e.symm
 | some i =>
   left
   obtain ⟨h, e, _⟩ := List.findIdx?_eq_some_iff_getElem.1 hf;exact ⟨i, h, rfl, by simpa using (eq_of_beq e).symm⟩
end Go.Proofs.YtbmcngoeinginaaGreatDoor
