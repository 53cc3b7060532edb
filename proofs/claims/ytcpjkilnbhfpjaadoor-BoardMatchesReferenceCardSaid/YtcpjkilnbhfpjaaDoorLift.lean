/-
  From walks to rows: the listed variable's cells, a start that meets the condition, a Raw that is opened.
-/
import Derived.Test.YtcpjkilnbhfpjaaDoorLawA
import Derived.Test.YtcpjkilnbhfpjaaDoorRows
import Derived.Test.YtcpjkilnbhfpjaaDoorTie
import Derived.Test.YtcpjkilnbhfpjaaDoorCards
import Derived.ProofKit
import Derived.LaidMore
import Derived.OpenShut
import Derived.Stop.Joined
import Derived.Lib.LaidTab
import Derived.SevenTiedAt
namespace Go.Proofs.YtcpjkilnbhfpjaaDoor
open Go Go.ChangeShapes Go.WideShapes Go.ChangeAt Go.WideMaps Go.WideElems Go.RowKit

def laidL : List (String × DataW Unit) := [("skewer/board.rays", Rows.laid_skewer_board_rays)]
theorem laidOutT : laidOutB Tryd.prog = true := by kernel_rfl
theorem own : ownKnob Tryd.prog.godebug = none := by kernel_rfl
theorem gRays : Tryd.prog.globalNamed "skewer/board.rays" = some 0 := by kernel_rfl
theorem tRays : (Tryd.prog.globals[0]?).map (·.type) = some 73 := by kernel_rfl
theorem c73 : Tryd.prog.cellsOf 73 = 16 := by kernel_rfl
theorem c72 : Tryd.prog.cellsOf 72 = 2 := by kernel_rfl
theorem c3 : Tryd.prog.cellsOf 3 = 1 := by kernel_rfl
theorem c5 : Tryd.prog.cellsOf 5 = 1 := by kernel_rfl
theorem c22 : Tryd.prog.cellsOf 22 = 32 := by kernel_rfl
theorem c24 : Tryd.prog.cellsOf 24 = 35 := by kernel_rfl

theorem door_met (os : Os) (args : Array Value) : laidMetH Tryd.prog laidL ((World.doorLaid Tryd.prog 22 os).forCall (fun _ _ => 0) ⟨#[], args, []⟩).memory :=
  laidMetH_of_parts3 (fuel := 8) (laidMet_of_run' 8 (by kernel_rfl) (by kernel_rfl)) (by kernel_rfl) (by kernel_rfl)

set_option maxRecDepth 100000 in
theorem rays_of_laid {W : World} (h : laidMetH Tryd.prog laidL W) : RaysIn W := by
  have h' : laidMet Tryd.prog laidL W := h
  obtain ⟨ps, ⟨g, t, cs, fuel, p, q, hg, ht, hvar, hd, _, _⟩, _⟩ := h'
  obtain rfl := Option.some.inj (gRays.symm.trans hg)
  obtain rfl := Option.some.inj (tRays.symm.trans ht)
  obtain ⟨xs, m, rfl, hx, hlen, hn, hel⟩ := DataW.trod_array Tryd.underlying73 hd
  have hmap : xs.map (·.1) = (List.range 8).map fun d => (.agg [.lit (.int .i64 (dxs[d]?.getD 0)), .lit (.int .i64 (dys[d]?.getD 0))] : DataW Unit) := by
    have := congrArg Prod.fst hx
    simp only [Rows.laid_skewer_board_rays, DataW.agg.injEq] at this
    rw [← this]
    rfl
  have key : ∀ i, i < 8 → (cs.toList.drop (i * 2)).take 2 = [Value.int .i64 (dxs[i]?.getD 0), Value.int .i64 (dys[i]?.getD 0)] := by
    intro i hi
    have h1 := hel i hi
    rw [c72] at h1
    have hxi : i < xs.length := by omega
    rw [List.getElem?_eq_getElem hxi] at h1
    have h2 : (xs.map (·.1))[i]? = some (.agg [.lit (.int .i64 (dxs[i]?.getD 0)), .lit (.int .i64 (dys[i]?.getD 0))]) := by rw [hmap]; simp [hi]
    rw [List.getElem?_map, List.getElem?_eq_getElem hxi] at h2
    simp only [Option.map_some, Option.some.injEq] at h2
    have h3 : DataW.trod (fun _ => ()) Tryd.prog W 0 (fun _ => true) false m 72 ((cs.toList.drop (i * 2)).take 2) = some (Lib.tabData .i64 [dxs[i]?.getD 0, dys[i]?.getD 0], xs[i].2) := by
      rw [h1]
      congr 1
      exact Prod.ext h2 rfl
    exact Lib.cells_of_tab Tryd.underlying72 Tryd.underlying3 c3 c72 h3
  intro j hj
  have hc := World.var?_cell gRays hvar j
  rw [hc]
  have hk := key (j / 2) (by omega)
  have hj2 : j = j / 2 * 2 + j % 2 := by omega
  have hm : j % 2 = 0 ∨ j % 2 = 1 := by omega
  have hget : cs[j]? = ((cs.toList.drop (j / 2 * 2)).take 2)[j % 2]? := by
    rw [List.getElem?_take, if_pos (by omega), List.getElem?_drop, ← hj2]
    simp
  rw [hget, hk]
  have hd8 : j / 2 < 8 := by omega
  have : j = 0 ∨ j = 1 ∨ j = 2 ∨ j = 3 ∨ j = 4 ∨ j = 5 ∨ j = 6 ∨ j = 7 ∨ j = 8 ∨ j = 9 ∨ j = 10 ∨ j = 11 ∨ j = 12 ∨ j = 13 ∨ j = 14 ∨ j = 15 := by omega
  rcases this with rfl | rfl | rfl | rfl | rfl | rfl | rfl | rfl | rfl | rfl | rfl | rfl | rfl | rfl | rfl | rfl <;> rfl

theorem one_cell {cs : Array Value} {k : Nat} {v : Value} (h : (cs.toList.drop k).take 1 = [v]) : cs[k]? = some v := by
  have := congrArg (·[0]?) h
  simpa [List.getElem?_take, List.getElem?_drop] using this

set_option maxRecDepth 100000 in
/-- A Raw that came in. -/
theorem open_raw {H : Type} {enc : TypeId × Value → H} {W : World} {base b0 : Nat} {sp : Nat → Bool} {held : Bool} {r : Reach} {v : Value} {d : DataW H} {p : List MemPlace}
    (hv : Value.okWide Tryd.prog W r b0 24 v) (h : DataW.Trod enc Tryd.prog W base sp held 24 v d p) :
    ∃ xs x0 x1 x2 nx, v = .agg xs ∧ RawIn xs x0 x1 x2 nx := by
  obtain ⟨cs, rfl, hsz⟩ := okWide_struct Tryd.underlying24 hv
  rw [c24] at hsz
  obtain ⟨fuel, hf⟩ := h
  obtain ⟨ys, m, rfl, _, _, hyl, hel⟩ := DataW.trod_struct Tryd.underlying24 hf
  have hcl : (Value.agg cs).cells.toList = cs.toList := rfl
  rw [hcl] at hel
  have hu8 : ∀ (k j : Nat) (y : DataW H × List MemPlace), DataW.trod enc Tryd.prog W base sp held k 5 ((cs.toList.drop j).take 1) = some y → ∃ n : Nat, n ≤ 255 ∧ cs[j]? = some (.int .u8 (n : Int)) := by
    intro k j y hd
    obtain ⟨z, hz, _, hwf⟩ := DataW.trod_int Tryd.underlying5 hd
    have hb := bounds_u8 hwf
    obtain ⟨n, rfl⟩ := Int.eq_ofNat_of_zero_le hb.1
    exact ⟨n, by omega, one_cell hz⟩
  have f0 : DataW.trod enc Tryd.prog W base sp held m 5 ((cs.toList.drop 0).take (Tryd.prog.cellsOf 5)) = ys[0]? := hel 0 _ rfl
  have f1 : DataW.trod enc Tryd.prog W base sp held m 5 ((cs.toList.drop 1).take (Tryd.prog.cellsOf 5)) = ys[1]? := hel 1 _ rfl
  have f2 : DataW.trod enc Tryd.prog W base sp held m 5 ((cs.toList.drop 2).take (Tryd.prog.cellsOf 5)) = ys[2]? := hel 2 _ rfl
  have f3 : DataW.trod enc Tryd.prog W base sp held m 22 ((cs.toList.drop 3).take (Tryd.prog.cellsOf 22)) = ys[3]? := hel 3 _ rfl
  have hl4 : ys.length = 4 := hyl
  rw [c5, List.getElem?_eq_getElem (by omega)] at f0 f1 f2
  rw [c22, List.getElem?_eq_getElem (by omega)] at f3
  obtain ⟨x0, b0, e0⟩ := hu8 _ _ _ f0
  obtain ⟨x1, b1, e1⟩ := hu8 _ _ _ f1
  obtain ⟨x2, b2, e2⟩ := hu8 _ _ _ f2
  obtain ⟨zs, m2, rfl, _, _, hzl, hze⟩ := DataW.trod_array Tryd.underlying22 f3
  have hex : ∀ i, i < 32 → ∃ n : Nat, n ≤ 255 ∧ cs[3 + i]? = some (.int .u8 (n : Int)) := by
    intro i hi
    have h1 := hze i hi
    rw [c5, List.getElem?_eq_getElem (by omega)] at h1
    have e : ((cs.toList.drop 3).take 32).drop (i * 1) = ((cs.toList.drop (3 + i)).take (32 - i)) := by
      rw [Nat.mul_one, List.drop_take, List.drop_drop]
    rw [e, List.take_take, Nat.min_eq_left (by omega)] at h1
    exact hu8 _ _ _ h1
  refine ⟨cs, x0, x1, x2, fun i => if h : i < 32 then Classical.choose (hex i h) else 0, rfl, hsz, b0, b1, b2, fun j => ?_, e0, e1, e2, fun j hj => ?_⟩
  · by_cases h : j < 32
    · rw [dif_pos h]; exact (Classical.choose_spec (hex j h)).1
    · rw [dif_neg h]; omega
  · rw [dif_pos hj]; exact (Classical.choose_spec (hex j hj)).2
end Go.Proofs.YtcpjkilnbhfpjaaDoor
