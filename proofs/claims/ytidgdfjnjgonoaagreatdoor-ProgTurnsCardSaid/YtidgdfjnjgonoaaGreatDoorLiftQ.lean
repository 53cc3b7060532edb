/-
  Arguments of the laws of programs that are opened: texts, arrays of bytes, lists of steps, pairs of lists, lists of pairs.
-/
import Derived.Test.YtidgdfjnjgonoaaGreatDoorLiftP
namespace Go.Proofs.YtidgdfjnjgonoaaGreatDoor
open Go Go.ChangeShapes Go.WideShapes Go.ChangeAt Go.WideMaps Go.WideElems Go.RowKit

set_option maxRecDepth 100000 in
theorem open_str {H : Type} {enc : TypeId × Value → H} {W : World} {b0 base : Nat} {sp : Nat → Bool} {held : Bool} {r : Reach} {v : Value} {d : DataW H} {p : List MemPlace}
    (hv : Value.okWide Tryz.prog W r b0 9 v) (h : DataW.Trod enc Tryz.prog W base sp held 9 v d p) : ∃ s : List UInt8, v = strV s ∧ s.length ≤ maxLen := by
  obtain ⟨s, rfl, _, _, hs⟩ := Go.ChangeMaps.open_string Tryz.underlying9 hv h
  exact ⟨s.data.toList, by unfold strV; rw [Array.toArray_toList], by rw [Array.length_toList]; exact hs⟩

set_option maxRecDepth 100000 in
/-- An array of bytes that came in by value. -/
theorem open_arr {H : Type} {enc : TypeId × Value → H} {W : World} {b0 base n : Nat} {sp : Nat → Bool} {held : Bool} {r : Reach} {v : Value} {d : DataW H} {p : List MemPlace} {t : TypeId}
    (ht : Tryz.prog.underlying t = some (.array n 5)) (hc : Tryz.prog.cellsOf t = n)
    (hv : Value.okWide Tryz.prog W r b0 t v) (h : DataW.Trod enc Tryz.prog W base sp held t v d p) :
    ∃ (cs : Array Value) (f : Nat → Nat), v = .agg cs ∧ cs.size = n ∧ (∀ i, i < n → cs[i]? = some (.int .u8 (f i : Int))) ∧ ∀ i, f i ≤ 255 := by
  obtain ⟨cs, rfl, hsz⟩ : ∃ cs, v = .agg cs ∧ cs.size = Tryz.prog.cellsOf t := by
    simp only [Value.okWide, ht] at hv
    obtain ⟨cs, h1, h2, _⟩ := hv
    exact ⟨cs, h1, h2⟩
  rw [hc] at hsz
  obtain ⟨fuel, hf⟩ := h
  obtain ⟨zs, m, rfl, _, _, hzl, hze⟩ := DataW.trod_array ht hf
  have hcl : (Value.agg cs).cells.toList = cs.toList := rfl
  rw [hcl, c5] at hze
  have hex : ∀ i, i < n → ∃ x : Nat, x ≤ 255 ∧ cs[i]? = some (.int .u8 (x : Int)) := by
    intro i hi
    have h1 := hze i hi
    rw [List.getElem?_eq_getElem (by omega), Nat.mul_one] at h1
    obtain ⟨z, hz, _, hwf⟩ := DataW.trod_int Tryz.underlying5 h1
    have hb := bounds_u8 hwf
    obtain ⟨x, rfl⟩ := Int.eq_ofNat_of_zero_le hb.1
    refine ⟨x, by omega, ?_⟩
    have := congrArg (·[0]?) hz
    simpa [List.getElem?_take, List.getElem?_drop] using this
  refine ⟨cs, fun i => if h : i < n then Classical.choose (hex i h) else 0, rfl, hsz, fun i hi => ?_, fun i => ?_⟩
  · dsimp only; rw [dif_pos hi]; exact (Classical.choose_spec (hex i hi)).2
  · dsimp only; by_cases h : i < n
    · rw [dif_pos h]; exact (Classical.choose_spec (hex i h)).1
    · rw [dif_neg h]; omega

theorem arr_eq {n : Nat} {cs : Array Value} {f : Nat → Nat} (hsz : cs.size = n) (hc : ∀ i, i < n → cs[i]? = some (.int .u8 (f i : Int))) : cs = ((List.range n).map fun i => Value.int .u8 (f i : Int)).toArray := by
  apply Array.ext
  · simp [hsz]
  · intro i h1 h2
    have := hc i (by omega)
    rw [Array.getElem?_eq_getElem h1] at this
    simpa using this

set_option maxRecDepth 100000 in
theorem open_eight {H : Type} {enc : TypeId × Value → H} {W : World} {b0 base : Nat} {sp : Nat → Bool} {held : Bool} {r : Reach} {v : Value} {d : DataW H} {p : List MemPlace}
    (hv : Value.okWide Tryz.prog W r b0 50 v) (h : DataW.Trod enc Tryz.prog W base sp held 50 v d p) :
    ∃ f : Nat → Nat, v = .agg #[.int .u8 (f 0 : Nat), .int .u8 (f 1 : Nat), .int .u8 (f 2 : Nat), .int .u8 (f 3 : Nat), .int .u8 (f 4 : Nat), .int .u8 (f 5 : Nat), .int .u8 (f 6 : Nat), .int .u8 (f 7 : Nat)] ∧ ∀ i, f i ≤ 255 := by
  obtain ⟨cs, f, rfl, hsz, hc, hb⟩ := open_arr Tryz.underlying50 (by kernel_rfl) hv h
  rw [arr_eq hsz hc]
  exact ⟨f, rfl, hb⟩
set_option maxRecDepth 100000 in
theorem open_two {H : Type} {enc : TypeId × Value → H} {W : World} {b0 base : Nat} {sp : Nat → Bool} {held : Bool} {r : Reach} {v : Value} {d : DataW H} {p : List MemPlace}
    (hv : Value.okWide Tryz.prog W r b0 42 v) (h : DataW.Trod enc Tryz.prog W base sp held 42 v d p) :
    ∃ a b : Nat, v = .agg #[.int .u8 (a : Int), .int .u8 (b : Int)] ∧ a ≤ 255 ∧ b ≤ 255 := by
  obtain ⟨cs, f, rfl, hsz, hc, hb⟩ := open_arr Tryz.underlying42 (by kernel_rfl) hv h
  rw [arr_eq hsz hc]
  exact ⟨f 0, f 1, rfl, hb 0, hb 1⟩

theorem cells_two {W : World} {base : Nat} {a : Addr} {cs : List Value} (h : W.cells? base a 2 = some cs) : ∃ x y, cs = [x, y] ∧ W.cell? (a.add 0) = some x ∧ W.cell? (a.add 1) = some y := by
  have h2 := (World.cells?_some h).2
  have hl : cs.length = 2 := h2.1
  obtain ⟨x, y, rfl⟩ : ∃ x y, cs = [x, y] := by
    rcases cs with _ | ⟨x, _ | ⟨y, _ | ⟨u, l⟩⟩⟩ <;> simp at hl
    exact ⟨x, y, rfl⟩
  exact ⟨x, y, rfl, by simpa using h2.2 0 (by omega), by simpa using h2.2 1 (by omega)⟩

set_option maxRecDepth 100000 in
/-- A []api.Step that came in. -/
theorem open_steps {H : Type} {enc : TypeId × Value → H} {W : World} {b0 : Nat} {r : Reach} {v : Value} {d : DataW H} {p : List MemPlace}
    (hv0 : Value.okWide Tryz.prog W r b0 23 v) (h : DataW.Trod enc Tryz.prog W 0 (fun _ => true) true 23 v d p) : ∃ a l c, v = .slice a (List.length l) c ∧ Prg W.heap.size W a l ∧ List.length l ≤ c ∧ c ≤ maxLen := by
  obtain ⟨a0, l0, k0, rfl⟩ := okWide_slice Tryz.underlying23 hv0
  obtain ⟨fuel, hf⟩ := h
  rcases DataW.trod_slice Tryz.underlying23 hf with ⟨e, _⟩ | ⟨a, len, cap, elems, rest, n, _, e, _, _, hle, hmx, hlen, hel, _, _⟩
  · simp [Value.cells] at e
    obtain ⟨rfl, rfl, rfl⟩ := e
    exact ⟨none, [], 0, rfl, .inl rfl, Nat.le_refl _, Nat.zero_le _⟩
  · have hv : Value.slice a0 l0 k0 = .slice (some a) len cap := by simpa [Value.cells] using e
    have hex : ∀ i, i < len → ∃ x : Int × Int, W.cell? (a.add (i * 2)) = some (.int .i64 x.1) ∧ W.cell? ((a.add (i * 2)).add 1) = some (.int .i64 x.2) := by
      intro i hi
      have h1 := hel i hi
      rw [cStep, List.getElem?_eq_getElem (by omega), Option.bind_eq_some_iff] at h1
      obtain ⟨cs, hcs, ht⟩ := h1
      obtain ⟨x, y, rfl, hx, hy⟩ := cells_two hcs
      obtain ⟨ys, m, rfl, _, _, hyl, hel2⟩ := DataW.trod_struct Tryz.underlying41 ht
      have hl2 : ys.length = 2 := hyl
      have f0 : DataW.trod enc Tryz.prog W 0 (fun _ => true) true m 3 (([x, y].drop 0).take (Tryz.prog.cellsOf 3)) = ys[0]? := hel2 0 _ rfl
      have f1 : DataW.trod enc Tryz.prog W 0 (fun _ => true) true m 3 (([x, y].drop 1).take (Tryz.prog.cellsOf 3)) = ys[1]? := hel2 1 _ rfl
      rw [c3, List.getElem?_eq_getElem (by omega)] at f0
      rw [c3, List.getElem?_eq_getElem (by omega)] at f1
      simp only [List.drop_zero, List.drop_succ_cons, List.take_succ_cons, List.take_zero] at f0 f1
      obtain ⟨n0, e0, _, _⟩ := DataW.trod_int Tryz.underlying3 f0
      obtain ⟨n1, e1, _, _⟩ := DataW.trod_int Tryz.underlying3 f1
      obtain rfl : x = .int .i64 n0 := by simpa using e0
      obtain rfl : y = .int .i64 n1 := by simpa using e1
      refine ⟨(n0, n1), ?_, hy⟩
      simpa [Addr.add] using hx
    by_cases h0 : len = 0
    · subst h0
      exact ⟨some a, [], cap, hv, .inl rfl, hle, hmx⟩
    · obtain ⟨x0, hx0, _⟩ := hex 0 (by omega)
      obtain ⟨hs, hb⟩ := addr_form hx0
      obtain ⟨b, off, sp⟩ := a
      simp [Addr.add] at hs hb
      subst hs
      refine ⟨some ⟨b, off, none⟩, (List.range len).map fun i => if h : i < len then Classical.choose (hex i h) else (0, 0), cap, by simpa using hv, .inr ⟨b, off, rfl, hb, fun j hj => ?_⟩, by simpa using hle, hmx⟩
      have hj' : j < len := by simpa using hj
      have hg : ((List.range len).map fun i => if h : i < len then Classical.choose (hex i h) else (0, 0))[j]?.getD (0, 0) = Classical.choose (hex j hj') := by simp [hj']
      have hc := Classical.choose_spec (hex j hj')
      rw [hg]
      generalize Classical.choose (hex j hj') = z at hc ⊢
      rw [add_none, add_none] at hc
      exact hc

/-- Pairs of bytes, as cells. -/
def Prs (n : Nat) (W : World) (a : Option Addr) (l : List (Nat × Nat)) : Prop :=
  (∀ j : Nat, (l[j]?.getD (0, 0)).1 ≤ 255 ∧ (l[j]?.getD (0, 0)).2 ≤ 255) ∧ (l = [] ∨ ∃ b off, a = some ⟨b, off, none⟩ ∧ b < n ∧ ∀ j, j < l.length → W.cell? ⟨b, off + j * 2, none⟩ = some (.int .u8 ((l[j]?.getD (0, 0)).1 : Int)) ∧ W.cell? ⟨b, off + j * 2 + 1, none⟩ = some (.int .u8 ((l[j]?.getD (0, 0)).2 : Int)))
theorem Prs.below {n : Nat} {A B : World} {a : Option Addr} {l : List (Nat × Nat)} (h : Prs n A a l) (hb : Below n A B) : Prs n B a l := by
  refine ⟨h.1, ?_⟩
  rcases h.2 with h | ⟨b, off, e, hn, hc⟩
  · exact .inl h
  · have hk : B.heap[b]? = A.heap[b]? := hb.block b hn
    exact .inr ⟨b, off, e, hn, fun j hj => ⟨(World.cell?_of_block (a := ⟨b, off + j * 2, none⟩) hk).trans (hc j hj).1, (World.cell?_of_block (a := ⟨b, off + j * 2 + 1, none⟩) hk).trans (hc j hj).2⟩⟩
theorem Prs.up {N : Nat} {w w1 : World} {a : Option Addr} {l : List (Nat × Nat)} (h : Prs N w a l) (hN : N ≤ w.heap.size) (hb : Below w.heap.size w w1) : Prs N w1 a l := h.below (hb.mono hN)
theorem Prs.at_ {n : Nat} {W : World} {a : Option Addr} {l : List (Nat × Nat)} (h : Prs n W a l) {j : Nat} (hj : j < l.length) :
    ∃ b off, a = some ⟨b, off, none⟩ ∧ b < n ∧ W.cell? ⟨b, off + j * 2, none⟩ = some (.int .u8 ((l[j]?.getD (0, 0)).1 : Int)) ∧ W.cell? ⟨b, off + j * 2 + 1, none⟩ = some (.int .u8 ((l[j]?.getD (0, 0)).2 : Int)) := by
  rcases h.2 with h | ⟨b, off, e, hn, hc⟩
  · subst h; simp at hj
  · exact ⟨b, off, e, hn, (hc j hj).1, (hc j hj).2⟩
theorem c22 : Tryz.prog.cellsOf 42 = 2 := by kernel_rfl

set_option maxRecDepth 100000 in
/-- A list of pairs of bytes that came in. -/
theorem open_prs {H : Type} {enc : TypeId × Value → H} {W : World} {b0 : Nat} {r : Reach} {v : Value} {d : DataW H} {p : List MemPlace}
    (hv0 : Value.okWide Tryz.prog W r b0 38 v) (h : DataW.Trod enc Tryz.prog W 0 (fun _ => true) true 38 v d p) : ∃ a l c, v = .slice a (List.length l) c ∧ Prs W.heap.size W a l ∧ List.length l ≤ c ∧ c ≤ maxLen := by
  obtain ⟨a0, l0, k0, rfl⟩ := okWide_slice Tryz.underlying38 hv0
  obtain ⟨fuel, hf⟩ := h
  rcases DataW.trod_slice Tryz.underlying38 hf with ⟨e, _⟩ | ⟨a, len, cap, elems, rest, n, _, e, _, _, hle, hmx, hlen, hel, _, _⟩
  · simp [Value.cells] at e
    obtain ⟨rfl, rfl, rfl⟩ := e
    exact ⟨none, [], 0, rfl, ⟨fun j => by simp, .inl rfl⟩, Nat.le_refl _, Nat.zero_le _⟩
  · have hv : Value.slice a0 l0 k0 = .slice (some a) len cap := by simpa [Value.cells] using e
    have hex : ∀ i, i < len → ∃ x : Nat × Nat, W.cell? (a.add (i * 2)) = some (.int .u8 (x.1 : Int)) ∧ W.cell? ((a.add (i * 2)).add 1) = some (.int .u8 (x.2 : Int)) ∧ x.1 ≤ 255 ∧ x.2 ≤ 255 := by
      intro i hi
      have h1 := hel i hi
      rw [c22, List.getElem?_eq_getElem (by omega), Option.bind_eq_some_iff] at h1
      obtain ⟨cs, hcs, ht⟩ := h1
      obtain ⟨x, y, rfl, hx, hy⟩ := cells_two hcs
      obtain ⟨ys, m, rfl, _, _, hyl, hel2⟩ := DataW.trod_array Tryz.underlying42 ht
      have hl2 : ys.length = 2 := hyl
      have f0 := hel2 0 (by omega)
      have f1 := hel2 1 (by omega)
      rw [c5, List.getElem?_eq_getElem (by omega)] at f0
      rw [c5, List.getElem?_eq_getElem (by omega)] at f1
      simp only [Nat.zero_mul, Nat.one_mul, List.drop_zero, List.drop_succ_cons, List.take_succ_cons, List.take_zero] at f0 f1
      obtain ⟨n0, e0, _, g0⟩ := DataW.trod_int Tryz.underlying5 f0
      obtain ⟨n1, e1, _, g1⟩ := DataW.trod_int Tryz.underlying5 f1
      obtain rfl : x = .int .u8 n0 := by simpa using e0
      obtain rfl : y = .int .u8 n1 := by simpa using e1
      have b0 := bounds_u8 g0
      have b1 := bounds_u8 g1
      obtain ⟨n0, rfl⟩ := Int.eq_ofNat_of_zero_le b0.1
      obtain ⟨n1, rfl⟩ := Int.eq_ofNat_of_zero_le b1.1
      refine ⟨(n0, n1), ?_, hy, by omega, by omega⟩
      simpa [Addr.add] using hx
    by_cases h0 : len = 0
    · subst h0
      exact ⟨some a, [], cap, hv, ⟨fun j => by simp, .inl rfl⟩, hle, hmx⟩
    · obtain ⟨x0, hx0, _⟩ := hex 0 (by omega)
      obtain ⟨hs, hb⟩ := addr_form hx0
      obtain ⟨b, off, sp⟩ := a
      simp [Addr.add] at hs hb
      subst hs
      have hg : ∀ j (hj' : j < len), ((List.range len).map fun i => if h : i < len then Classical.choose (hex i h) else (0, 0))[j]?.getD (0, 0) = Classical.choose (hex j hj') := fun j hj' => by simp [hj']
      refine ⟨some ⟨b, off, none⟩, (List.range len).map fun i => if h : i < len then Classical.choose (hex i h) else (0, 0), cap, by simpa using hv, ⟨fun j => ?_, .inr ⟨b, off, rfl, hb, fun j hj => ?_⟩⟩, by simpa using hle, hmx⟩
      · by_cases hj : j < len
        · have hc := Classical.choose_spec (hex j hj)
          rw [hg j hj]; exact hc.2.2
        · simp [hj]
      · have hj' : j < len := by simpa using hj
        have hc := Classical.choose_spec (hex j hj')
        rw [hg j hj']
        generalize Classical.choose (hex j hj') = z at hc ⊢
        rw [add_none, add_none] at hc
        exact ⟨hc.1, hc.2.1⟩

set_option maxRecDepth 100000 in
/-- A pair of lists of bytes that came in. -/
theorem open_u8s2 {H : Type} {enc : TypeId × Value → H} {W : World} {b0 : Nat} {r : Reach} {v : Value} {d : DataW H} {p : List MemPlace}
    (hv0 : Value.okWide Tryz.prog W r b0 37 v) (h : DataW.Trod enc Tryz.prog W 0 (fun _ => true) true 37 v d p) :
    ∃ a l c a2 l2 c2, v = .agg #[.slice a (List.length l) c, .slice a2 (List.length l2) c2] ∧ U8s W.heap.size W a l ∧ U8s W.heap.size W a2 l2 := by
  obtain ⟨cs, rfl, hsz, hval⟩ : ∃ cs, v = .agg cs ∧ cs.size = Tryz.prog.cellsOf 37 ∧ True := by
    simp only [Value.okWide, Tryz.underlying37] at hv0
    obtain ⟨cs, h1, h2, _⟩ := hv0
    exact ⟨cs, h1, h2, trivial⟩
  rw [show Tryz.prog.cellsOf 37 = 2 by kernel_rfl] at hsz
  obtain ⟨x, y, rfl⟩ : ∃ x y, cs = #[x, y] := by
    obtain ⟨l⟩ := cs
    rcases l with _ | ⟨x, _ | ⟨y, _ | ⟨u, l⟩⟩⟩ <;> simp at hsz
    exact ⟨x, y, rfl⟩
  obtain ⟨fuel, hf⟩ := h
  obtain ⟨ys, m, rfl, _, _, hyl, hel⟩ := DataW.trod_array Tryz.underlying37 hf
  have hcl : (Value.agg #[x, y]).cells.toList = [x, y] := rfl
  rw [hcl, show Tryz.prog.cellsOf 22 = 1 by kernel_rfl] at hel
  have f0 := hel 0 (by omega)
  have f1 := hel 1 (by omega)
  rw [List.getElem?_eq_getElem (by omega)] at f0
  rw [List.getElem?_eq_getElem (by omega)] at f1
  simp only [Nat.zero_mul, Nat.one_mul, List.drop_zero, List.drop_succ_cons, List.take_succ_cons, List.take_zero] at f0 f1
  have one : ∀ (z : Value) (q : DataW H × List MemPlace), DataW.trod enc Tryz.prog W 0 (fun _ => true) true m 22 [z] = some q → ∃ a l c, z = .slice a (List.length l) c ∧ U8s W.heap.size W a l := by
    intro z q hq
    rcases open_ints Tryz.underlying22 Tryz.underlying5 c5 hq with ⟨e, _⟩ | ⟨a, len, cap, zs, e, _, hl, _, hz, _, hc, hw⟩
    · obtain rfl : z = .slice none 0 0 := by simpa using e
      exact ⟨none, [], 0, rfl, fun j => by simp, .inl rfl⟩
    · obtain rfl : z = .slice (some a) len cap := by simpa using e
      have hz' : zs.length = cap := by simpa using hz
      have hbd : ∀ n ∈ zs, 0 ≤ n ∧ n ≤ 255 := fun n hn => bounds_u8 (hw n hn)
      have hlen : ((zs.take len).map Int.toNat).length = len := by simp; omega
      refine ⟨some a, (zs.take len).map Int.toNat, cap, by rw [hlen], fun j => ?_, ?_⟩
      · cases hj : ((zs.take len).map Int.toNat)[j]? with
        | none => simp
        | some x =>
          have := List.mem_of_getElem? hj
          simp only [List.mem_map] at this
          obtain ⟨n, hn, rfl⟩ := this
          have := hbd n (List.mem_of_mem_take hn)
          simp; omega
      · by_cases h0 : len = 0
        · left; subst h0; simp
        · right
          obtain ⟨hs, hb⟩ := addr_form (hc 0 (by omega))
          obtain ⟨b, off, sp⟩ := a
          simp only [Addr.add] at hs hb
          subst hs
          refine ⟨b, off, rfl, hb, fun j hj => ?_⟩
          rw [hlen] at hj
          have h1 := hc j (by omega)
          rw [add_none] at h1
          have hjz : j < zs.length := by omega
          have h2 : zs.getD j 0 = zs[j] := by simp [List.getD, hjz]
          have h3 := hbd zs[j] (List.getElem_mem hjz)
          have h4 : ((zs.take len).map Int.toNat)[j]?.getD 0 = zs[j].toNat := by simp [hj, hjz]
          rw [h1, h2, h4, Int.toNat_of_nonneg h3.1]
  obtain ⟨a, l, c, rfl, h1⟩ := one x _ f0
  obtain ⟨a2, l2, c2, rfl, h2⟩ := one y _ f1
  exact ⟨a, l, c, a2, l2, c2, rfl, h1, h2⟩
end Go.Proofs.YtidgdfjnjgonoaaGreatDoor
