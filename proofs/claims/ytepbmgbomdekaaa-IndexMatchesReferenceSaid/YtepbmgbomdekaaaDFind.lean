/-
  Two positions side by side; lists of positions (for seats without Find of the package pos).
-/
import Derived.Test.YtepbmgbomdekaaaDRow
import Derived.IntWalk
import Derived.Test.YtepbmgbomdekaaaQTail
namespace Go.Proofs.Ytepbmgbomdekaaa
open Go Go.RowKit

def PsAt (W : World) (b off : Nat) (L : List PosA) : Prop := ∀ i c, (hi : i < L.length) → c < 5 → W.cell? ⟨b, off + (i * 5 + c), none⟩ = (PosA.enc L[i])[c]?
structure TwoB (w : World) (g oi g2 oj : Nat) (x y : PosA) (W : World) : Prop where
  b : Below w.heap.size w W
  x0 : W.cell? ⟨g, oi, none⟩ = some (.slice x.a x.p.cells.length x.c)
  x1 : W.cell? ⟨g, oi + 1, none⟩ = some (.slice x.a0 x.p.h0.length x.c0)
  x2 : W.cell? ⟨g, oi + 2, none⟩ = some (.slice x.a1 x.p.h1.length x.c1)
  x3 : W.cell? ⟨g, oi + 3, none⟩ = some (.int .i64 x.p.rights)
  x4 : W.cell? ⟨g, oi + 4, none⟩ = some (.int .i64 x.p.side)
  y0 : W.cell? ⟨g2, oj, none⟩ = some (.slice y.a y.p.cells.length y.c)
  y1 : W.cell? ⟨g2, oj + 1, none⟩ = some (.slice y.a0 y.p.h0.length y.c0)
  y2 : W.cell? ⟨g2, oj + 2, none⟩ = some (.slice y.a1 y.p.h1.length y.c1)
  y3 : W.cell? ⟨g2, oj + 3, none⟩ = some (.int .i64 y.p.rights)
  y4 : W.cell? ⟨g2, oj + 4, none⟩ = some (.int .i64 y.p.side)
theorem TwoB.up {w W W' : World} {g oi g2 oj : Nat} {x y : PosA} (h : TwoB w g oi g2 oj x y W) (hb : Below W.heap.size W W') : TwoB w g oi g2 oj x y W' :=
  ⟨below_step h.b hb, cell_keep hb h.x0, cell_keep hb h.x1, cell_keep hb h.x2, cell_keep hb h.x3, cell_keep hb h.x4, cell_keep hb h.y0, cell_keep hb h.y1, cell_keep hb h.y2, cell_keep hb h.y3, cell_keep hb h.y4⟩
theorem PsAt.up {W W' : World} {b off : Nat} {L : List PosA} (h : PsAt W b off L) (hb : Below W.heap.size W W') : PsAt W' b off L := fun i c hi hc => by
  have h1 := h i c hi hc
  have hs : ((PosA.enc L[i])[c]?) = some ((PosA.enc L[i])[c]'(by rw [PosA.enc_len]; exact hc)) := List.getElem?_eq_getElem _
  rw [hs] at h1 ⊢
  exact cell_keep hb h1
theorem TwoB.of {w : World} {g off g2 : Nat} {L : List PosA} {x y : PosA} {h : Nat} (hp : PsAt w g off L) (hh : h < L.length) (hx : L[h] = x) (hy : w.heap[g2]? = some (.cells y.enc.toArray 27 (0, 0))) : TwoB w g (off + h * 5) g2 0 x y w := by
  have cx := fun c (hc : c < 5) => hp h c hh hc
  rw [hx] at cx
  exact ⟨Below.refl _ _, cx 0 (by omega), cx 1 (by omega), cx 2 (by omega), cx 3 (by omega), cx 4 (by omega), bx_cell hy 0 rfl, bx_cell hy 1 rfl, bx_cell hy 2 rfl, bx_cell hy 3 rfl, bx_cell hy 4 rfl⟩

end Go.Proofs.Ytepbmgbomdekaaa
