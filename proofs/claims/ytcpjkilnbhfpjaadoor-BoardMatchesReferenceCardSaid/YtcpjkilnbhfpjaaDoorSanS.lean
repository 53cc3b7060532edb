/-
  The fixed boards of the law's examples: what is true of them.
-/
import Derived.Test.YtcpjkilnbhfpjaaDoorGridB
import Derived.Test.YtcpjkilnbhfpjaaDoorWithoutB
import Derived.Test.YtcpjkilnbhfpjaaDoorNearP
import Derived.Test.YtcpjkilnbhfpjaaDoorLine
import Derived.Test.YtcpjkilnbhfpjaaDoorRefTo
import Derived.Test.YtcpjkilnbhfpjaaDoorRefValid
import Derived.Test.YtcpjkilnbhfpjaaDoorRefLists
namespace Go.Proofs.YtcpjkilnbhfpjaaDoor
open Go Go.RowKit

def sanG : Brd := gridS 3 2
def sanA : Brd := withoutS sanG 1
def sanB : Brd := withoutS sanA 4
theorem sanG_valid : validS sanG = true := by decide +kernel
theorem sanA_valid : validS sanA = true := by decide +kernel
theorem sanB_valid : validS sanB = true := by decide +kernel
theorem sanG_cells : sanG.cells = 6 := by decide +kernel
theorem sanA_cells : sanA.cells = 6 := by decide +kernel
theorem sanG_to0 : toS sanG 0 0 4 = 1 := by decide +kernel
theorem sanG_to1 : toS sanG 1 0 4 = -1 := by decide +kernel
theorem sanG_to2 : toS sanG 2 0 4 = -1 := by decide +kernel
theorem sanG_near : nearS sanG 4 = [0, 1, 2, 3, 5] := by
  rw [nearS_eq (ok_of_valid sanG_valid).1]
  decide +kernel
theorem sanB_parts : partsS sanB = [0, 1, 2, 0, 4, 2] := by decide +kernel
theorem sanG_line : lineOf sanG 0 2 0 = [1, 2] := by decide +kernel
theorem empty_valid : validS { cells := 0, next := [], turn := [] } = false := by decide +kernel

/-- A board in a box, and its lists. -/
structure InBox (W : World) (b : Nat) (an at_ : Option Addr) (cn ct : Nat) (B : Brd) : Prop where
  c0 : W.cell? ⟨b, 0, none⟩ = some (.int .i64 B.cells)
  c1 : W.cell? ⟨b, 1, none⟩ = some (.slice an B.next.length cn)
  c2 : W.cell? ⟨b, 2, none⟩ = some (.slice at_ B.turn.length ct)
  held : Held W.heap.size W an at_ B
theorem InBox.up {W W' : World} {b : Nat} {an at_ : Option Addr} {cn ct : Nat} {B : Brd} (h : InBox W b an at_ cn ct B) (hb : Below W.heap.size W W') : InBox W' b an at_ cn ct B :=
  ⟨cell_keep hb h.c0, cell_keep hb h.c1, cell_keep hb h.c2, (h.held.up (Nat.le_refl _) hb).mono hb.size⟩
theorem InBox.new {W : World} {an at_ : Option Addr} (cn ct : Nat) {B : Brd} (h : Held W.heap.size W an at_ B) : InBox (W.alloc (.cells #[.int .i64 B.cells, .slice an B.next.length cn, .slice at_ B.turn.length ct] 31)) W.heap.size an at_ cn ct B :=
  ⟨cell_new_at _ _ _ _ _ _ rfl rfl, cell_new_at _ _ _ _ _ _ rfl rfl, cell_new_at _ _ _ _ _ _ rfl rfl, (h.up (Nat.le_refl _) ((Below.refl _ _).alloc (Nat.le_refl _) _)).mono (by rw [World.size_alloc]; omega)⟩

theorem RaysIn.up {w w' : World} (h : RaysIn w) (hb : Below w.heap.size w w') : RaysIn w' := fun j hj => cell_keep hb (h j hj)

theorem lit_ints (W : World) (l : List Int) (cs : Array Value) (h : cs = (l.map (Value.int .i64)).toArray) : Ints (W.heap.size + 1) (W.alloc (.cells cs 3)) (some ⟨W.heap.size, 0, none⟩) l := by
  refine .inr ⟨W.heap.size, 0, rfl, by omega, fun j hj => ?_⟩
  subst h
  rw [Nat.zero_add]
  exact cell_new_at _ _ _ _ _ _ rfl (by simp [hj])
end Go.Proofs.YtcpjkilnbhfpjaaDoor
