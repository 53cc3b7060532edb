/-
 Of the reference's grow: what each way through the lines leaves.
-/
import Derived.Test.YtbmcngoeinginaaGreatDoorKGrA
import Derived.Test.YtbmcngoeinginaaGreatDoorKMadeV
import Derived.Deep.DeepCutAuto
import Derived.Deep.CutBlock
namespace Go.Proofs.YtbmcngoeinginaaGreatDoor
open Go Go.RowKit Go.Lib
theorem cutTo_each (s : List UInt8) (d : UInt8) : ∀ q, ∀ x ∈ (cutTo s d q).1, x.length ≤ q
 | 0 => by simp [cutTo]
 | q + 1 => by
   have ih := cutTo_each s d q;have hl := cutTo_len s d q;intro x hx;unfold cutTo at hx
   split at hx
   · rcases List.mem_append.1 hx with hx | hx
     · have := ih x hx; omega
     · rw [List.mem_singleton.1 hx]; omega
   · have := ih x hx; omega
theorem cut_each (s : List UInt8) (d : UInt8) : ∀ x ∈ cutS s d, x.length ≤ s.length := fun x hx => by
 unfold cutS at hx
 rcases List.mem_append.1 hx with hx | hx
 · exact cutTo_each s d _ x hx
 · rw [List.mem_singleton.1 hx]
   have := cutTo_len s d s.length
   omega
theorem last_at (ws : List (List UInt8)) (m : Nat) (h : ws.length = m + 1) : lastW ws = ws[m]'(by omega) := by
 unfold lastW
 rw [List.getLast?_eq_getElem?]
 have e : ws.length - 1 = m := by omega
 rw [e, List.getElem?_eq_getElem (by omega)]; rfl
theorem cut_one (s : List UInt8) (d : UInt8) : 1 ≤ (cutS s d).length := by unfold cutS; simp
def GrowEnd (h r : Nat) (w : World) (g' : GameD) (W : World) : Prop := ∃ vn vt vk vc, W.heap[r]? = some (.cells (gcs g' vn vt vk vc) 38 (0, 0)) ∧ W.heap[r + 1]? = some (.cells zeroC 38 (0, 0)) ∧ OwnD h W vn vt vk vc g' ∧ Below h w W
theorem growEnd_set {h r j : Nat} {w W : World} {CS : Array Value} {vn vt vk vc v : Value} {g' : GameD} (hh : h ≤ r) (hw : h ≤ w.heap.size) (hb : Below h w W) (hx : W.heap[r]? = some (.cells CS 38 (0, 0))) (hz : W.heap[r + 1]? = some (.cells zeroC 38 (0, 0))) (hO : OwnD h W vn vt vk vc g') (he : CS.setIfInBounds j v = gcs g' vn vt vk vc) :
   GrowEnd h r w g' (W.setCell ⟨r, j, none⟩ v) := by
 obtain ⟨h1, h2⟩ := gb_set hx hO he
 have ha := alters_cell W r j v
 exact ⟨vn, vt, vk, vc, h1, (ha.block (r + 1) (bx_lt hz) (fun e => by have e : r + 1 = r := e; omega)).trans hz, h2, hb.trans (ha.below (Nat.le_trans hw hb.size) (fun k hk => by have hk : k = r := hk; omega))⟩
theorem setRow_altK (W : World) (q : Nat) (cs : Array Value) : Alters (fun b => b = q) W (W.setRow q cs) := ⟨rfl, rfl, rfl, by rw [size_setRow]; exact Nat.le_refl _, fun k _ hs => setRow_other W q k _ hs⟩
theorem step_store_clause {ops : Array Oper} {o : Oper} {a : Act} {w : World} {K : Act → World → Prop} {Q : Exit → Act → World → Prop} {E : Prop} (hw : Region.wanted o (yielded ops a.tmps) = true) (x y : Operand) (ho : o.op = .store 70 x y)
   (b : Nat) (cs : Array Value) (hx : a.eval x = .pointer (some ⟨b, 0, none⟩)) (hy : a.eval y = .agg cs) (old : Array Value) (hg : w.heap[b]? = some (.cells old 70 (0, 0))) (h4 : cs.size = 4) (hold : old.size = 4) (h1 : cs.all (·.oneCell') = true)
   (h : K (a.put o.dst undef) (w.setRow b cs)) : if Region.wanted o (yielded ops a.tmps) = true then Oper.wp Tryz.prog o a w K Q else E := by
 rw [if_pos hw]
 exact wp_store_row 70 x y ho b cs hx hy 70 old hg (by rw [h4]; exact info_clause4) (by rw [h4]; exact hold) h1 h
theorem drop_min (s : List UInt8) : (⟨s.toArray⟩ : ByteArray).extract (min (s.length : Int) 5).toNat s.length = ⟨(s.drop 5).toArray⟩ := by
 rw [ext_drop]
 congr 2
 rcases Nat.le_total s.length 5 with h | h
 · have e : (min (s.length : Int) 5).toNat = s.length := by omega
   rw [e, List.drop_length, List.drop_eq_nil_of_le h]
 · have e : (min (s.length : Int) 5).toNat = 5 := by omega
   rw [e]
theorem prog_end {h r g1 cap1 g7 cap k1 m : Nat} {w w2 w3 U w7 : World} {vn vt vc pv pw : Value} {pinit ps : List Value} {init : List KindD} {kd : KindD} {l : List (Int × Int)} {g : GameD}
   (hh : h ≤ w2.heap.size) (hk1 : init.length = k1) (hm : m = kd.progs.length) (hgk : g.kinds = init ++ [kd])
   (hx2 : w2.heap[r]? = some (.cells (gcs g vn vt (.slice (some ⟨g1, 0, none⟩) (k1 + 1) cap1) vc) 38 (0, 0))) (hz2 : w2.heap[r + 1]? = some (.cells zeroC 38 (0, 0)))
   (hO : OwnD h w2 vn vt (.slice (some ⟨g1, 0, none⟩) (k1 + 1) cap1) vc g) (hlow : Below h w w2) (hpl : pinit.length = k1)
   (ho : w2.ownsRow h 63 3 (.slice (some ⟨g1, 0, none⟩) (k1 + 1) cap1) (k1 + 1) (flatK init pinit ++ [.string ⟨kd.name.toArray⟩, pv, .bool kd.keep]))
   (hps : w2.ownsRow h 68 1 pv m ps) (hst : ∀ j (hj : j < kd.progs.length), ∃ v, ps[j]? = some v ∧ OwnStp h w2 v (kd.progs[j]'hj)) (hinit : ∀ i (hi : i < init.length), ∃ p, pinit[i]? = some p ∧ ProgsOwn h w2 p (init[i]'hi).progs)
   (hap : ∀ (i j : Nat) (p q : Value), i < j → pinit[i]? = some p → pinit[j]? = some q → ∀ b, some b = p.ownBlock → ¬ some b = q.ownBlock) (hlast : ∀ (i : Nat) (p : Value), pinit[i]? = some p → ∀ b, some b = p.ownBlock → ¬ some b = pv.ownBlock)
   (hpw : OwnStp w2.heap.size w3 pw l) (hb23 : Below w2.heap.size w2 w3) (hbU : Below w3.heap.size w3 U)
   (hown : w7.ownsRow h 68 1 (.slice (some ⟨g7, 0, none⟩) (m + 1) cap) (m + 1) (ps ++ [pw])) (hg : U.grownBy w7 pv.ownBlock) (hat : pv.ownBlock = some g7 ∨ g7 = U.heap.size) :
   w7.heap[r]? = some (.cells (gcs g vn vt (.slice (some ⟨g1, 0, none⟩) (k1 + 1) cap1) vc) 38 (0, 0)) ∧ w7.cell? ⟨g1, k1 * 3 + 1, none⟩ = some pv ∧ w7.frozen? ⟨g1, k1 * 3 + 1, none⟩ = false ∧
     (w7.setCell ⟨g1, k1 * 3 + 1, none⟩ (.slice (some ⟨g7, 0, none⟩) (m + 1) cap)).heap[r]? = some (.cells (gcs g vn vt (.slice (some ⟨g1, 0, none⟩) (k1 + 1) cap1) vc) 38 (0, 0)) ∧
     GrowEnd h r w { g with kinds := addP g.kinds l } (w7.setCell ⟨g1, k1 * 3 + 1, none⟩ (.slice (some ⟨g7, 0, none⟩) (m + 1) cap)) := by
 have hbU2 := below_step hb23 hbU
 have hxl : (flatK init pinit).length = k1 * 3 := by have := ho.1; simp at this; omega
 have hoU := World.ownsRow.upB ho hbU2
 have hpU := World.ownsRow.upB hps hbU2
 have ho7 := own_kept_apart hoU hpU (by decide) hg
 have hpw7 := own_kept_apart (World.ownsRow.upB hpw hbU) hpU (by decide) hg
 have hx7 := grown_box hpU hg ((hbU2.block r (bx_lt hx2)).trans hx2) (by decide)
 have hz7 := grown_box hpU hg ((hbU2.block (r + 1) (bx_lt hz2)).trans hz2) (by decide)
 have hal := alters_cell w7 g1 (k1 * 3 + 1) (.slice (some ⟨g7, 0, none⟩) (m + 1) cap)
 obtain ⟨hs1, hs2⟩ := World.ownsRow.stored ho7 (k1 * 3 + 1) (.slice (some ⟨g7, 0, none⟩) (m + 1) cap)
 rw [set_last hxl] at hs1
 have hgn : ∀ {q : Nat} {cs : Array Value}, w7.heap[q]? = some (.cells cs 38 (0, 0)) → ¬ q = g1 := fun {q cs} hq e => by
   obtain ⟨cs', e1⟩ := own_has_ ho7 (b := g1) rfl;rw [← e, hq] at e1
   cases e1
 have hx8 := (hal.block r (bx_lt hx7) (hgn hx7)).trans hx7
 have hz8 := (hal.block (r + 1) (bx_lt hz7) (hgn hz7)).trans hz7
 have ha : Alters (fun b => b = g1 ∨ some b = pv.ownBlock) w2 (w7.setCell ⟨g1, k1 * 3 + 1, none⟩ (.slice (some ⟨g7, 0, none⟩) (m + 1) cap)) := ((Alters.of_below hbU2).trans ((Alters.of_grown hg).mono (fun _ _ h => .inr h))).trans (hal.mono (fun _ _ h => .inl h))
 have hat' : pv.ownBlock = some g7 ∨ w2.heap.size ≤ g7 := by
   rcases hat with e | e
   · exact .inl e
   · exact .inr (by rw [e]; exact hbU2.size)
 have hN : ∀ {T : TypeId}, T ≠ 63 → T ≠ 68 → NotT T (fun b => b = g1 ∨ some b = pv.ownBlock) w2 := fun h1 h2 => NotT.or (fun b hb => notT_own ho h1 b (by rw [show b = g1 from hb]; rfl)) (notT_own hps h2)
 have hS : ∀ b, (b = g1 ∨ some b = pv.ownBlock) → h ≤ b := fun b hb => by
   rcases hb with rfl | hb
   · exact (World.ownsRow.lt ho b rfl).1
   · exact (World.ownsRow.lt hps b hb.symm).1
 subst hk1
 have hres := prog_more (l := l) hm rfl hh hpl ho hps hst hinit hap hlast hs1 (own_kept_apart hown ho7 (by decide) hs2) (own_kept_apart hpw7 ho7 (by decide) hs2) ha hat'
 refine ⟨hx7, ?_, World.ownsRow.frozenAt ho7 _, hx8, vn, vt, _, vc, hx8, hz8, ⟨hO.next.alt ha (hN (by decide) (by decide)) (hN (by decide) (by decide)), own_alt hO.turn ha (hN (by decide) (by decide)), ?_, own_alt hO.clauses ha (hN (by decide) (by decide))⟩, hlow.trans (ha.below hh hS)⟩
 · rw [World.ownsRow.cellAt ho7 (init.length * 3 + 1) (by omega), List.getElem?_append_right (by omega), hxl, Nat.add_sub_cancel_left]
   rfl
 · show KindsOwn h _ _ (addP g.kinds l)
   rw [hgk, addP_snoc]; exact hres
end Go.Proofs.YtbmcngoeinginaaGreatDoor
