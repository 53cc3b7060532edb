/-
  From walks to rows, for plain rows: arguments that are opened.
-/
import Derived.Test.YtepbmgbomdekaaaXLaw
import Derived.Test.YtepbmgbomdekaaaRows
import Derived.ProofKit
import Derived.OpenShut
import Derived.Lib.LaidU8
namespace Go.Proofs.Ytepbmgbomdekaaa
open Go Go.ChangeShapes Go.WideShapes Go.ChangeAt Go.WideMaps Go.WideElems Go.RowKit

theorem laidOutT : laidOutB Try.prog = true := by kernel_rfl
theorem own : ownKnob Try.prog.godebug = none := by kernel_rfl
theorem c3 : Try.prog.cellsOf 3 = 1 := by kernel_rfl
theorem c5 : Try.prog.cellsOf 5 = 1 := by kernel_rfl
theorem cInts : Try.prog.cellsOf 24 = 1 := by kernel_rfl
theorem cHands : Try.prog.cellsOf 25 = 2 := by kernel_rfl
theorem cPos : Try.prog.cellsOf 27 = 5 := by kernel_rfl
def U8s (n : Nat) (W : World) (a : Option Addr) (l : List Nat) : Prop :=
  (∀ j : Nat, (l[j]? : Option Nat).getD 0 ≤ 255) ∧ (l = [] ∨ ∃ b off, a = some ⟨b, off, none⟩ ∧ b < n ∧ ∀ j, j < l.length → W.cell? ⟨b, off + j, none⟩ = some (.int .u8 ((l[j]?.getD 0 : Nat) : Int)))
theorem U8s.below {n : Nat} {A B : World} {a : Option Addr} {l : List Nat} (h : U8s n A a l) (hb : Below n A B) : U8s n B a l := by
  refine ⟨h.1, ?_⟩
  rcases h.2 with h | ⟨b, off, e, hn, hc⟩
  · exact .inl h
  · exact .inr ⟨b, off, e, hn, fun j hj => (hb.cell (p := ⟨b, off + j, none⟩) hn).trans (hc j hj)⟩
theorem U8s.up {N : Nat} {w w1 : World} {a : Option Addr} {l : List Nat} (h : U8s N w a l) (hN : N ≤ w.heap.size) (hb : Below w.heap.size w w1) : U8s N w1 a l := h.below (hb.mono hN)
theorem U8s.at_ {n : Nat} {W : World} {a : Option Addr} {l : List Nat} (h : U8s n W a l) {j : Nat} (hj : j < l.length) :
    ∃ b off, a = some ⟨b, off, none⟩ ∧ b < n ∧ W.cell? ⟨b, off + j, none⟩ = some (.int .u8 ((l[j]?.getD 0 : Nat) : Int)) := by
  rcases h.2 with rfl | ⟨b, off, e, hn, hc⟩
  · simp at hj
  · exact ⟨b, off, e, hn, hc j hj⟩
theorem addr_form {W : World} {a : Addr} {v : Value} (h : W.cell? a = some v) : a.spot = none ∧ a.block < W.heap.size := by
  refine ⟨?_, World.block_lt_of_cell? W a h⟩
  unfold World.cell? at h
  split at h
  · split at h
    · cases h
    · rename_i hs; simpa using hs
  · cases h
set_option maxRecDepth 100000 in
theorem add_none (b off j : Nat) : (⟨b, off, none⟩ : Addr).add j = ⟨b, off + j, none⟩ := by
  by_cases h : j = 0 <;> simp [Addr.add, h]
set_option maxRecDepth 100000 in
theorem bounds_u8 {n : Int} (h : (Lit.int .u8 n).wf = true) : 0 ≤ n ∧ n ≤ 255 := by simpa [Lit.wf, IntKind.min, IntKind.max, IntKind.signed, IntKind.bits] using h
set_option maxRecDepth 100000 in
theorem ints_of_open {W : World} {a : Addr} {zs : List Int} (n : Nat) (hn : n ≤ zs.length) (hc : ∀ c, c < zs.length → W.cell? (a.add c) = some (.int .i64 (zs.getD c 0))) : Ints W.heap.size W (some a) (zs.take n) := by
  by_cases h0 : n = 0
  · subst h0; exact .inl (by simp)
  · obtain ⟨hs, hb⟩ := addr_form (hc 0 (by omega))
    obtain ⟨b, off, sp⟩ := a
    simp only [Addr.add] at hs hb
    subst hs
    refine .inr ⟨b, off, rfl, hb, fun j hj => ?_⟩
    have hj' : j < n ∧ j < zs.length := by simp at hj; omega
    have := hc j hj'.2
    rw [List.getElem?_take, if_pos hj'.1]
    rw [add_none] at this
    simpa [List.getD_eq_getElem?_getD] using this
set_option maxRecDepth 100000 in
theorem ints_cell {H : Type} {enc : TypeId × Value → H} {W : World} {m : Nat} {z : Value} {q : DataW H × List MemPlace} (h : DataW.trod enc Try.prog W 0 (fun _ => true) true m 24 [z] = some q) :
    ∃ a l c, z = .slice a (List.length l) c ∧ Ints W.heap.size W a l ∧ List.length l ≤ maxLen := by
  rcases open_ints Try.underlying24 Try.underlying3 c3 h with ⟨h1, _⟩ | ⟨a, len, cap, zs, h1, _, h3, h4, h5, _, h7, _⟩
  · obtain rfl : z = .slice none 0 0 := by simpa using h1
    exact ⟨none, [], 0, rfl, .inl rfl, Nat.zero_le _⟩
  · obtain rfl : z = .slice (some a) len cap := by simpa using h1
    simp only [if_true] at h5
    have hl : (zs.take len).length = len := by simp; omega
    refine ⟨some a, zs.take len, cap, by rw [hl], ints_of_open len (by omega) h7, ?_⟩
    rw [hl]; omega
set_option maxRecDepth 100000 in
theorem pos_cells {H : Type} {enc : TypeId × Value → H} {W : World} {m : Nat} {cs : List Value} {q : DataW H × List MemPlace} (h : DataW.trod enc Try.prog W 0 (fun _ => true) true m 27 cs = some q) (hsz : cs.length = 5) :
    ∃ (p : PosS) (a a0 a1 : Option Addr) (c c0 c1 : Nat), cs = [.slice a p.cells.length c, .slice a0 p.h0.length c0, .slice a1 p.h1.length c1, .int .i64 p.rights, .int .i64 p.side] ∧ PosIn W.heap.size W a a0 a1 p ∧ PosFit p := by
  obtain ⟨x, y, z, u, v, rfl⟩ : ∃ x y z u v, cs = [x, y, z, u, v] := by
    rcases cs with _ | ⟨x, _ | ⟨y, _ | ⟨z, _ | ⟨u, _ | ⟨v, _ | ⟨t, l⟩⟩⟩⟩⟩⟩ <;> simp at hsz
    exact ⟨x, y, z, u, v, rfl⟩
  obtain ⟨ys, m, rfl, _, _, hyl, hel⟩ := DataW.trod_struct Try.underlying27 h
  have f0 : DataW.trod enc Try.prog W 0 (fun _ => true) true m 24 (([x, y, z, u, v].drop 0).take (Try.prog.cellsOf 24)) = ys[0]? := hel 0 _ rfl
  have f1 : DataW.trod enc Try.prog W 0 (fun _ => true) true m 25 (([x, y, z, u, v].drop 1).take (Try.prog.cellsOf 25)) = ys[1]? := hel 1 _ rfl
  have f2 : DataW.trod enc Try.prog W 0 (fun _ => true) true m 3 (([x, y, z, u, v].drop 3).take (Try.prog.cellsOf 3)) = ys[2]? := hel 2 _ rfl
  have f3 : DataW.trod enc Try.prog W 0 (fun _ => true) true m 3 (([x, y, z, u, v].drop 4).take (Try.prog.cellsOf 3)) = ys[3]? := hel 3 _ rfl
  have hl4 : ys.length = 4 := hyl
  rw [c3, List.getElem?_eq_getElem (by omega)] at f2 f3
  rw [cHands, List.getElem?_eq_getElem (by omega)] at f1
  rw [cInts, List.getElem?_eq_getElem (by omega)] at f0
  simp only [List.drop_zero, List.drop_succ_cons, List.take_succ_cons, List.take_zero] at f0 f1 f2 f3
  obtain ⟨n2, e2, _, _⟩ := DataW.trod_int Try.underlying3 f2
  obtain ⟨n3, e3, _, _⟩ := DataW.trod_int Try.underlying3 f3
  obtain rfl : u = .int .i64 n2 := by simpa using e2
  obtain rfl : v = .int .i64 n3 := by simpa using e3
  obtain ⟨a, l, c, rfl, hI, hl⟩ := ints_cell f0
  obtain ⟨zs, m2, rfl, _, _, hzl, hze⟩ := DataW.trod_array Try.underlying25 f1
  rw [cInts] at hze
  have g0 := hze 0 (by omega)
  have g1 := hze 1 (by omega)
  rw [List.getElem?_eq_getElem (by omega)] at g0 g1
  simp only [Nat.zero_mul, Nat.one_mul, List.drop_zero, List.drop_succ_cons, List.take_succ_cons, List.take_zero] at g0 g1
  obtain ⟨a0, l0, c0, rfl, hI0, hl0⟩ := ints_cell g0
  obtain ⟨a1, l1, c1, rfl, hI1, hl1⟩ := ints_cell g1
  exact ⟨⟨l, l0, l1, n2, n3⟩, a, a0, a1, c, c0, c1, rfl, ⟨hI, hI0, hI1⟩, ⟨hl, hl0, hl1⟩⟩
set_option maxRecDepth 100000 in
theorem open_pos {H : Type} {enc : TypeId × Value → H} {W : World} {b0 : Nat} {r : Reach} {v : Value} {d : DataW H} {p : List MemPlace}
    (hv : Value.okWide Try.prog W r b0 27 v) (h : DataW.Trod enc Try.prog W 0 (fun _ => true) true 27 v d p) :
    ∃ (q : PosS) (a a0 a1 : Option Addr) (c c0 c1 : Nat), v = PosV a a0 a1 c c0 c1 q ∧ PosIn W.heap.size W a a0 a1 q ∧ PosFit q := by
  obtain ⟨cs, rfl, hsz⟩ := okWide_struct Try.underlying27 hv
  rw [cPos] at hsz
  obtain ⟨fuel, hf⟩ := h
  have hcl : (Value.agg cs).cells.toList = cs.toList := rfl
  rw [hcl] at hf
  obtain ⟨q, a, a0, a1, c, c0, c1, e, hI, hF⟩ := pos_cells hf (by simpa using hsz)
  refine ⟨q, a, a0, a1, c, c0, c1, ?_, hI, hF⟩
  unfold PosV
  congr 1
  apply Array.ext'
  simpa using e
theorem bounds_i8 {n : Int} (h : (Lit.int .i8 n).wf = true) : -128 ≤ n ∧ n ≤ 127 := by simpa [Lit.wf, IntKind.min, IntKind.max, IntKind.signed, IntKind.bits] using h
set_option maxRecDepth 100000 in
theorem open_u8s {H : Type} {enc : TypeId × Value → H} {W : World} {b0 : Nat} {r : Reach} {v : Value} {d : DataW H} {p : List MemPlace}
    (hv0 : Value.okWide Try.prog W r b0 23 v) (h : DataW.Trod enc Try.prog W 0 (fun _ => true) true 23 v d p) : ∃ a l c, v = .slice a (List.length l) c ∧ U8s W.heap.size W a l := by
  obtain ⟨a0, l0, k0, rfl⟩ := okWide_slice Try.underlying23 hv0
  obtain ⟨fuel, hf⟩ := h
  rcases open_ints Try.underlying23 Try.underlying5 c5 hf with ⟨e, _⟩ | ⟨a, len, cap, zs, e, _, hl, _, hz, _, hc, hw⟩
  · simp [Value.cells] at e
    obtain ⟨rfl, rfl, rfl⟩ := e
    exact ⟨none, [], 0, rfl, fun j => by simp, .inl rfl⟩
  · have hv : Value.slice a0 l0 k0 = .slice (some a) len cap := by simpa [Value.cells] using e
    have hz' : zs.length = cap := by simpa using hz
    have hbd : ∀ n ∈ zs, 0 ≤ n ∧ n ≤ 255 := fun n hn => bounds_u8 (hw n hn)
    have hlen : ((zs.take len).map Int.toNat).length = len := by simp; omega
    refine ⟨some a, (zs.take len).map Int.toNat, cap, by rw [hlen]; exact hv, fun j => ?_, ?_⟩
    · cases hj : ((zs.take len).map Int.toNat)[j]? with
      | none => simp
      | some x =>
        have := List.mem_of_getElem? hj
        simp only [List.mem_map] at this
        obtain ⟨n, hn, rfl⟩ := this
        have := hbd n (List.mem_of_mem_take hn)
        simp; omega
    · by_cases h0 : len = 0
      · left; subst h0; simp
      · right
        obtain ⟨hs, hb⟩ := addr_form (hc 0 (by omega))
        obtain ⟨b, off, sp⟩ := a
        simp only [Addr.add] at hs hb
        subst hs
        refine ⟨b, off, rfl, hb, fun j hj => ?_⟩
        rw [hlen] at hj
        have h1 := hc j (by omega)
        rw [add_none] at h1
        have hjz : j < zs.length := by omega
        have h2 : zs.getD j 0 = zs[j] := by simp [List.getD, hjz]
        have h3 := hbd zs[j] (List.getElem_mem hjz)
        have h4 : ((zs.take len).map Int.toNat)[j]?.getD 0 = zs[j].toNat := by simp [hj, hjz]
        rw [h1, h2, h4, Int.toNat_of_nonneg h3.1]
set_option maxRecDepth 100000 in
theorem open_three {H : Type} {enc : TypeId × Value → H} {W : World} {b0 base : Nat} {sp : Nat → Bool} {held : Bool} {r : Reach} {v : Value} {d : DataW H} {p : List MemPlace} {t e : TypeId} {k : IntKind}
    (ht : Try.prog.underlying t = some (.array 3 e)) (he : Try.prog.underlying e = some (.int k)) (hc : Try.prog.cellsOf t = 3) (hce : Try.prog.cellsOf e = 1)
    (hv : Value.okWide Try.prog W r b0 t v) (h : DataW.Trod enc Try.prog W base sp held t v d p) :
    ∃ a0 a1 a2 : Int, v = .agg #[.int k a0, .int k a1, .int k a2] ∧ (Lit.int k a0).wf = true ∧ (Lit.int k a1).wf = true ∧ (Lit.int k a2).wf = true := by
  obtain ⟨cs, rfl, hsz⟩ : ∃ cs, v = .agg cs ∧ cs.size = Try.prog.cellsOf t := by
    simp only [Value.okWide, ht] at hv
    obtain ⟨cs, h1, h2, _⟩ := hv
    exact ⟨cs, h1, h2⟩
  rw [hc] at hsz
  obtain ⟨x, y, z, rfl⟩ : ∃ x y z, cs = #[x, y, z] := by
    obtain ⟨l⟩ := cs
    rcases l with _ | ⟨x, _ | ⟨y, _ | ⟨z, _ | ⟨u, l⟩⟩⟩⟩ <;> simp at hsz
    exact ⟨x, y, z, rfl⟩
  obtain ⟨fuel, hf⟩ := h
  obtain ⟨ys, m, rfl, _, _, hyl, hel⟩ := DataW.trod_array ht hf
  have hcl : (Value.agg #[x, y, z]).cells.toList = [x, y, z] := rfl
  rw [hcl, hce] at hel
  have hl3 : ys.length = 3 := hyl
  have f0 := hel 0 (by omega)
  have f1 := hel 1 (by omega)
  have f2 := hel 2 (by omega)
  rw [List.getElem?_eq_getElem (by omega)] at f0 f1 f2
  simp only [Nat.zero_mul, Nat.one_mul, Nat.reduceMul, List.drop_zero, List.drop_succ_cons, List.take_succ_cons, List.take_zero] at f0 f1 f2
  obtain ⟨n0, e0, _, g0⟩ := DataW.trod_int he f0
  obtain ⟨n1, e1, _, g1⟩ := DataW.trod_int he f1
  obtain ⟨n2, e2, _, g2⟩ := DataW.trod_int he f2
  obtain rfl : x = .int k n0 := by simpa using e0
  obtain rfl : y = .int k n1 := by simpa using e1
  obtain rfl : z = .int k n2 := by simpa using e2
  exact ⟨n0, n1, n2, rfl, g0, g1, g2⟩
theorem agg_of_list {cs : Array Value} {l : Array Value} (h : cs.toList = l.toList) : Value.agg cs = .agg l := by rw [Array.ext' h]
section
variable {H : Type} {enc : TypeId × Value → H} {W : World} {b0 : Nat} {r : Reach} {v : Value} {d : DataW H} {p : List MemPlace} {m : Nat} {cs : List Value} {q : DataW H × List MemPlace}
theorem byte_cell (h : DataW.trod enc Try.prog W 0 (fun _ => true) true m 5 cs = some q) : ∃ x : Nat, cs = [.int .u8 (x : Int)] ∧ x ≤ 255 := by
  obtain ⟨z, hz, _, hwf⟩ := DataW.trod_int Try.underlying5 h
  have hb := bounds_u8 hwf
  obtain ⟨x, rfl⟩ := Int.eq_ofNat_of_zero_le hb.1
  exact ⟨x, hz, by omega⟩
theorem bytes_cells {n : Nat} {t : TypeId} (ht : Try.prog.underlying t = some (.array n 5)) (hc : Try.prog.cellsOf t = n)
    (h : DataW.trod enc Try.prog W 0 (fun _ => true) true m t cs = some q) : ∃ f : Nat → Nat, cs = (List.range n).map (fun i => Value.int .u8 (f i : Int)) ∧ ∀ i, f i ≤ 255 := by
  obtain ⟨zs, m, rfl, _, hl, hzl, hze⟩ := DataW.trod_array ht h
  rw [hc] at hl
  rw [c5] at hze
  have hex : ∀ i, i < n → ∃ x : Nat, x ≤ 255 ∧ cs[i]? = some (.int .u8 (x : Int)) := by
    intro i hi
    have h1 := hze i hi
    rw [List.getElem?_eq_getElem (by omega), Nat.mul_one] at h1
    obtain ⟨x, hz, hx⟩ := byte_cell h1
    refine ⟨x, hx, ?_⟩
    have := congrArg (·[0]?) hz
    simpa [List.getElem?_take, List.getElem?_drop] using this
  obtain ⟨f, hf, hb⟩ : ∃ f : Nat → Nat, (∀ i, i < n → cs[i]? = some (.int .u8 (f i : Int))) ∧ ∀ i, f i ≤ 255 := by
    refine ⟨fun i => if h : i < n then Classical.choose (hex i h) else 0, fun i hi => ?_, fun i => ?_⟩
    · dsimp only; rw [dif_pos hi]; exact (Classical.choose_spec (hex i hi)).2
    · dsimp only; by_cases h : i < n
      · rw [dif_pos h]; exact (Classical.choose_spec (hex i h)).1
      · rw [dif_neg h]; omega
  refine ⟨f, ?_, hb⟩
  apply List.ext_getElem
  · simp [hl]
  · intro i h1 h2
    have := hf i (by omega)
    rw [List.getElem?_eq_getElem h1] at this
    simpa using this
theorem arr_parts {t : TypeId} {n : Nat} {e : TypeId} (ht : Try.prog.underlying t = some (.array n e)) (hv : Value.okWide Try.prog W r b0 t v) : ∃ cs, v = .agg cs := by
  simp only [Value.okWide, ht] at hv
  obtain ⟨cs, h1, _⟩ := hv
  exact ⟨cs, h1⟩
set_option maxRecDepth 100000 in
theorem open_u8x2 (hv : Value.okWide Try.prog W r b0 22 v) (h : DataW.Trod enc Try.prog W 0 (fun _ => true) true 22 v d p) :
    ∃ a b : Nat, v = .agg #[.int .u8 (a : Int), .int .u8 (b : Int)] ∧ a ≤ 255 ∧ b ≤ 255 := by
  obtain ⟨cs, rfl⟩ := arr_parts Try.underlying22 hv
  obtain ⟨fuel, hf⟩ := h
  have hcl : (Value.agg cs).cells.toList = cs.toList := rfl
  rw [hcl] at hf
  obtain ⟨f, e, hb⟩ := bytes_cells Try.underlying22 (by kernel_rfl) hf
  exact ⟨f 0, f 1, agg_of_list e, hb 0, hb 1⟩
set_option maxRecDepth 100000 in
theorem open_u8x3 (hv : Value.okWide Try.prog W r b0 62 v) (h : DataW.Trod enc Try.prog W 0 (fun _ => true) true 62 v d p) :
    ∃ a b c : Nat, v = .agg #[.int .u8 (a : Int), .int .u8 (b : Int), .int .u8 (c : Int)] ∧ a ≤ 255 ∧ b ≤ 255 ∧ c ≤ 255 := by
  obtain ⟨cs, rfl⟩ := arr_parts Try.underlying62 hv
  obtain ⟨fuel, hf⟩ := h
  have hcl : (Value.agg cs).cells.toList = cs.toList := rfl
  rw [hcl] at hf
  obtain ⟨f, e, hb⟩ := bytes_cells Try.underlying62 (by kernel_rfl) hf
  exact ⟨f 0, f 1, f 2, agg_of_list e, hb 0, hb 1, hb 2⟩
end
end Go.Proofs.Ytepbmgbomdekaaa
