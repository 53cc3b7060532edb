/-
  Of the reference: At: what lies in memory on its way.
-/
import Derived.Test.YtepbmgbomdekaaaXAt
import Derived.Test.YtepbmgbomdekaaaXPush
import Derived.Test.YtepbmgbomdekaaaXFld
import Derived.Test.YtepbmgbomdekaaaXRSiz
import Derived.Test.YtepbmgbomdekaaaXCopN
namespace Go.Proofs.Ytepbmgbomdekaaa
open Go Go.RowKit

theorem getD_le_sum : ∀ (l : List Nat) (y : Nat), l.getD y 0 ≤ l.sum
  | [], y => by simp
  | a :: l, 0 => by simp
  | a :: l, y + 1 => by
    have := getD_le_sum l y
    simp only [List.getD_cons_succ, List.sum_cons]
    omega
/-- The numbers that are left, and the position that is being filled. -/
structure RA (base M m d ob g0 g1 d0 d1 : Nat) (h0 h1 : List Int) (rg sd : Int) (va : Value) (lk acc : List Nat) (W : World) : Prop where
  men : OwnInts base W (.slice (some ⟨M, 0, none⟩) m d) (zs lk)
  box : W.heap[ob]? = some (.cells #[va, .slice (some ⟨g0, 0, none⟩) h0.length d0, .slice (some ⟨g1, 0, none⟩) h1.length d1, .int .i64 rg, .int .i64 sd] 27 (0, 0))
  out : OwnInts base W va (zs acc)
  o0 : OwnInts base W (.slice (some ⟨g0, 0, none⟩) h0.length d0) h0
  o1 : OwnInts base W (.slice (some ⟨g1, 0, none⟩) h1.length d1) h1
  n0 : ¬ some M = va.ownBlock
  n1 : ¬ some g0 = va.ownBlock
  n2 : ¬ some g1 = va.ownBlock
  n3 : ¬ g0 = M
  n4 : ¬ g1 = M
  low : base ≤ ob
section
variable {base M m d ob g0 g1 d0 d1 : Nat} {h0 h1 : List Int} {rg sd : Int} {va : Value} {lk acc : List Nat} {W : World}
theorem RA.neM (h : RA base M m d ob g0 g1 d0 d1 h0 h1 rg sd va lk acc W) : ¬ ob = M := fun e => own_ne h.men h.box (by decide) (by rw [e]; rfl)
theorem RA.up {W' : World} (h : RA base M m d ob g0 g1 d0 d1 h0 h1 rg sd va lk acc W) (hb : Below W.heap.size W W') : RA base M m d ob g0 g1 d0 d1 h0 h1 rg sd va lk acc W' :=
  ⟨h.men.upx hb, hp_up h.box hb, h.out.upx hb, h.o0.upx hb, h.o1.upx hb, h.n0, h.n1, h.n2, h.n3, h.n4, h.low⟩
theorem RA.setM (h : RA base M m d ob g0 g1 d0 d1 h0 h1 rg sd va lk acc W) {lk' : List Nat} {y : Nat} {x : Int} (he : (zs lk).set y x = zs lk') : RA base M m d ob g0 g1 d0 d1 h0 h1 rg sd va lk' acc (W.setCell ⟨M, y, none⟩ (.int .i64 x)) := by
  have ha := alters_cell W M y (.int .i64 x)
  have hm := h.men.set y x
  rw [he] at hm
  exact ⟨hm, (ha.block ob (bx_lt h.box) h.neM).trans h.box, h.out.alters ha (fun k hk => by have e : k = M := hk; rw [e]; exact h.n0),
    h.o0.alters ha (fun k hk e => h.n3 (by have e1 : k = M := hk; cases e; exact e1)), h.o1.alters ha (fun k hk e => h.n4 (by have e1 : k = M := hk; cases e; exact e1)), h.n0, h.n1, h.n2, h.n3, h.n4, h.low⟩
theorem RA.push (h : RA base M m d ob g0 g1 d0 d1 h0 h1 rg sd va lk acc W) (hbase : base ≤ W.heap.size) {y g cap : Nat} {os : Array Value} {W7 : World} (hr : W7.ownsRow base 3 1 (.slice (some ⟨g, 0, none⟩) ((zs acc).length + 1) cap) ((zs acc).length + 1) ((zs acc).map (Value.int .i64) ++ [.int .i64 (y : Int)]))
    (hg : (W.alloc (.cells os 3)).grownBy W7 va.ownBlock) (hor : va.ownBlock = some g ∨ g = (W.alloc (.cells os 3)).heap.size) :
    RA base M m d ob g0 g1 d0 d1 h0 h1 rg sd (.slice (some ⟨g, 0, none⟩) ((zs acc).length + 1) cap) lk (acc ++ [y]) (W7.setCell ⟨ob, 0, none⟩ (.slice (some ⟨g, 0, none⟩) ((zs acc).length + 1) cap)) ∧ Below base W (W7.setCell ⟨ob, 0, none⟩ (.slice (some ⟨g, 0, none⟩) ((zs acc).length + 1) cap)) ∧ W7.heap[ob]? = some (.cells #[va, .slice (some ⟨g0, 0, none⟩) h0.length d0, .slice (some ⟨g1, 0, none⟩) h1.length d1, .int .i64 rg, .int .i64 sd] 27 (0, 0)) := by
  have hA : Alters (fun b => some b = va.ownBlock) W W7 := (Alters.of_below (below_alloc (Below.refl _ W) _)).trans (Alters.of_grown hg)
  have ho7 : OwnInts base W7 (.slice (some ⟨g, 0, none⟩) ((zs acc).length + 1) cap) (zs (acc ++ [y])) := by
    unfold OwnInts
    have e : zs (acc ++ [y]) = zs acc ++ [(y : Int)] := by simp [zs]
    rw [e, List.length_append, List.map_append]
    exact hr
  have m7 := h.men.alters hA (fun k hk e => h.n0 (by cases e; exact hk))
  have o07 := h.o0.alters hA (fun k hk e => h.n1 (by cases e; exact hk))
  have o17 := h.o1.alters hA (fun k hk e => h.n2 (by cases e; exact hk))
  have b7 : W7.heap[ob]? = _ := (hA.block ob (bx_lt h.box) (fun e => own_ne h.out h.box (by decide) e)).trans h.box
  have hc := alters_cell W7 ob 0 (.slice (some ⟨g, 0, none⟩) ((zs acc).length + 1) cap)
  have key : ∀ {v : Value} {l : List Int}, OwnInts base W7 v l → OwnInts base (W7.setCell ⟨ob, 0, none⟩ (.slice (some ⟨g, 0, none⟩) ((zs acc).length + 1) cap)) v l := fun hv => hv.alters hc (fun k hk => by have e1 : k = ob := hk; rw [e1]; exact own_ne hv b7 (by decide))
  have hgt : ∀ z, z < W.heap.size → ¬ some z = va.ownBlock → ¬ some z = (Value.slice (some ⟨g, 0, none⟩) ((zs acc).length + 1) cap).ownBlock := fun z hz hn e => by
    have e1 : z = g := by injection e
    rcases hor with h9 | h9
    · exact hn (by rw [e1]; exact h9.symm)
    · rw [World.size_alloc] at h9; omega
  refine ⟨⟨key m7, bx_set b7 0 _, key ho7, key o07, key o17, hgt M (World.ownsRow.lt h.men M rfl).2 h.n0, hgt g0 (World.ownsRow.lt h.o0 g0 rfl).2 h.n1, hgt g1 (World.ownsRow.lt h.o1 g1 rfl).2 h.n2, h.n3, h.n4, h.low⟩, ?_, b7⟩
  exact (hA.below hbase (fun k hk => (World.ownsRow.lt h.out k hk.symm).1)).trans (hc.below (Nat.le_trans hbase hA.size) (fun k hk => by have e1 : k = ob := hk; have := h.low; omega))
end
end Go.Proofs.Ytepbmgbomdekaaa
