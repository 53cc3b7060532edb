/-
 A game that Made has made, told apart from boxes of games; steps for regions in which two of them are made.
-/
import Derived.Test.YtbmcngoeinginaaGreatDoorCSam
import Derived.Test.YtbmcngoeinginaaGreatDoorKGame
import Derived.Deep.MidRow
namespace Go.Proofs.YtbmcngoeinginaaGreatDoor
open Go Go.RowKit
def MadeAt (h : Nat) (W : World) (x : GRaw) (y : GPl) : Prop := ∃ on ot kv cv, OwnG h W on ot kv cv (madeG x) ∧ (madeG x).cells on ot kv cv = (madeD x).cells y
theorem MadeAt.off {h : Nat} {W W' : World} {x : GRaw} {y : GPl} (hm : MadeAt h W x y) {S : Nat → Prop} (ha : Alters S W W') (hS : ∀ k, S k → ∃ c f, W.heap[k]? = some (.cells c 38 f)) : MadeAt h W' x y := by
 obtain ⟨on, ot, kv, cv, hO, e⟩ := hm
 exact ⟨on, ot, kv, cv, hO.off ha (fun k hk => by
   obtain ⟨c, f, hc⟩ := hS k hk
   exact off_ty hc (by decide)), e⟩
theorem MadeAt.up {h : Nat} {W W' : World} {x : GRaw} {y : GPl} (hm : MadeAt h W x y) (hb : Below W.heap.size W W') : MadeAt h W' x y :=
 hm.off (S := fun _ => False) (Alters.of_below hb) (fun _ h => h.elim)
theorem MadeAt.low {h m : Nat} {W : World} {x : GRaw} {y : GPl} (hm : MadeAt h W x y) (hl : m ≤ h) : MadeAt m W x y := by
 obtain ⟨on, ot, kv, cv, hO, e⟩ := hm
 exact ⟨on, ot, kv, cv, hO.low hl, e⟩
theorem gcells_inj {g : GameD} {y z : GPl} (e : g.cells y = g.cells z) : y = z := by
 obtain ⟨a1, a2, a3, a4, a5, a6, a7, a8⟩ := y
 obtain ⟨b1, b2, b3, b4, b5, b6, b7, b8⟩ := z
 unfold GameD.cells at e
 have e2 := congrArg Array.toList e
 simp only [List.cons.injEq, Value.slice.injEq, and_true, true_and] at e2
 obtain ⟨⟨h1, h2⟩, ⟨h3, h4⟩, ⟨h5, h6⟩, ⟨h7, h8⟩⟩ := e2
 subst h1 h2 h3 h4 h5 h6 h7 h8
 rfl
theorem MadeAt.game {h : Nat} {W : World} {x : GRaw} {y : GPl} (hm : MadeAt h W x y) : GameIn W.heap.size W y (madeD x) := by
 obtain ⟨on, ot, kv, cv, hO, e⟩ := hm
 obtain ⟨z, e2, hG⟩ := hO.game
 obtain rfl : z = y := gcells_inj (e2.symm.trans e)
 exact hG
theorem made_at (x : GRaw) (a0 a1 a2 : Option Addr) (c0 c1 c2 N : Nat) (w : World) (hN : N ≤ w.heap.size) (hI : GRawIn N w a0 a1 a2 x) :
   Calls Tryz.prog 11 #[.agg (x.cells a0 a1 a2 c0 c1 c2)] w fun e w' => ∃ y, e = .returned (.agg ((madeD x).cells y)) ∧ MadeAt w.heap.size w' x y ∧ Below w.heap.size w w' := by
 refine (madeG_any x a0 a1 a2 c0 c1 c2 N w hN hI).mono ?_
 rintro e w' ⟨on, ot, kv, cv, rfl, hO, hb⟩
 obtain ⟨y, e, hG⟩ := hO.game
 exact ⟨y, by rw [e]; rfl, ⟨on, ot, kv, cv, hO, e⟩, hb⟩
theorem setRow_alt (W : World) (q : Nat) (cs : Array Value) : Alters (fun b => b = q) W (W.setRow q cs) := ⟨rfl, rfl, rfl, by rw [size_setRow]; exact Nat.le_refl _, fun k _ hs => setRow_other W q k _ hs⟩
theorem step_store_game {ops : Array Oper} {o : Oper} {a : Act} {w : World} {K : Act → World → Prop} {Q : Exit → Act → World → Prop} {E : Prop} (hw : Region.wanted o (yielded ops a.tmps) = true) (x y : Operand) (ho : o.op = .store 38 x y)
   (b : Nat) (g : GameD) (p : GPl) (hx : a.eval x = .pointer (some ⟨b, 0, none⟩)) (hy : a.eval y = .agg (g.cells p)) (old : Array Value) (hg : w.heap[b]? = some (.cells old 38 (0, 0))) (hold : old.size = 9)
   (h : K (a.put o.dst undef) (w.setRow b (g.cells p))) : if Region.wanted o (yielded ops a.tmps) = true then Oper.wp Tryz.prog o a w K Q else E := by
 rw [if_pos hw]
 exact wp_store_row 38 x y ho b (g.cells p) hx hy 38 old hg (by rw [cells_size]; exact info_gameC) (by rw [cells_size]; exact hold) (cells_one g p) h
theorem raw_size (x : GRaw) (a0 a1 a2 : Option Addr) (c0 c1 c2 : Nat) : (x.cells a0 a1 a2 c0 c1 c2).toList.length = 12 := rfl
structure TwoMade (w : World) (x x2 : GRaw) (b8 b9 : Nat) (y y2 : GPl) (W : World) : Prop where
 ne : b8 ≠ b9
 l8 : w.heap.size ≤ b8
 l9 : w.heap.size ≤ b9
 h8 : W.heap[b8]? = some (.cells ((madeD x).cells y) 38 (0, 0))
 h9 : W.heap[b9]? = some (.cells ((madeD x2).cells y2) 38 (0, 0))
 m8 : MadeAt w.heap.size W x y
 m9 : MadeAt w.heap.size W x2 y2
 b : Below w.heap.size w W
end Go.Proofs.YtbmcngoeinginaaGreatDoor
