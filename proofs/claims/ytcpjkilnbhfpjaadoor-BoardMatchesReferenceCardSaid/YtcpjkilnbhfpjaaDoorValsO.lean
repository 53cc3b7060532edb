/-
  A Board and four int16 that came in, opened.
-/
import Derived.Test.YtcpjkilnbhfpjaaDoorLift
import Derived.Deep.Matrix
namespace Go.Proofs.YtcpjkilnbhfpjaaDoor
open Go Go.ChangeShapes Go.WideShapes Go.ChangeAt Go.WideMaps Go.WideElems Go.RowKit

theorem addr_form {W : World} {a : Addr} {v : Value} (h : W.cell? a = some v) : a.spot = none ∧ a.block < W.heap.size := by
  refine ⟨?_, World.block_lt_of_cell? W a h⟩
  unfold World.cell? at h
  split at h
  · split at h
    · cases h
    · rename_i hs; simpa using hs
  · cases h

theorem add_none (b off j : Nat) : (⟨b, off, none⟩ : Addr).add j = ⟨b, off + j, none⟩ := by
  by_cases h : j = 0 <;> simp [Addr.add, h]

theorem ints_of_open {W : World} {a : Addr} {zs : List Int} (n : Nat) (hn : n ≤ zs.length) (hc : ∀ c, c < zs.length → W.cell? (a.add c) = some (.int .i64 (zs.getD c 0))) : Ints W.heap.size W (some a) (zs.take n) := by
  by_cases h0 : n = 0
  · subst h0; exact .inl (by simp)
  · obtain ⟨hs, hb⟩ := addr_form (hc 0 (by omega))
    obtain ⟨b, off, sp⟩ := a
    simp only [Addr.add] at hs hb
    subst hs
    refine .inr ⟨b, off, rfl, hb, fun j hj => ?_⟩
    have hj' : j < n ∧ j < zs.length := by simp at hj; omega
    have := hc j hj'.2
    rw [List.getElem?_take, if_pos hj'.1]
    rw [add_none] at this
    simpa [List.getD_eq_getElem?_getD] using this

theorem rws_of_open {W : World} {a : Addr} {len cap : Nat} {A : Nat → Option Addr} {L C : Nat → Nat} {Z : Nat → List Int} (hle : len ≤ cap)
    (hcell : ∀ r, r < cap → W.cell? (a.add r) = some (.slice (A r) (L r) (C r)) ∧ L r ≤ C r ∧ C r ≤ maxLen ∧ (Z r).length = C r ∧ (∀ n ∈ Z r, (Lit.int .i64 n).wf = true) ∧ (A r = none → C r = 0) ∧
      ∀ a', A r = some a' → 0 ≤ a'.block ∧ ∀ c, c < C r → W.cell? (a'.add c) = some (.int .i64 ((Z r).getD c 0))) :
    Rws W.heap.size W (some a) ((List.range len).map fun r => (Z r).take (L r)) := by
  by_cases h0 : len = 0
  · subst h0; exact .inl (by simp)
  · obtain ⟨hs, hb⟩ := addr_form (hcell 0 (by omega)).1
    obtain ⟨b, off, sp⟩ := a
    simp only [Addr.add] at hs hb
    subst hs
    refine .inr ⟨b, off, rfl, hb, fun j hj => ?_⟩
    have hj' : j < len := by simpa using hj
    obtain ⟨h1, h2, _, h4, _, h6, h7⟩ := hcell j (by omega)
    have e : ((List.range len).map fun r => (Z r).take (L r))[j]?.getD [] = (Z j).take (L j) := by simp [hj']
    rw [e]
    have hl : ((Z j).take (L j)).length = L j := by simp; omega
    refine ⟨A j, C j, by rw [hl, ← add_none]; exact h1, ?_⟩
    cases hA : A j with
    | none =>
      have := h6 hA
      exact .inl (List.eq_nil_of_length_eq_zero (by omega))
    | some a' => exact ints_of_open (L j) (by omega) (fun c hc => (h7 a' hA).2 c (by omega))

theorem cBoard : Tryd.prog.cellsOf 31 = 3 := by kernel_rfl
theorem cRows : Tryd.prog.cellsOf 28 = 1 := by kernel_rfl
theorem cInts : Tryd.prog.cellsOf 29 = 1 := by kernel_rfl
theorem c4 : Tryd.prog.cellsOf 26 = 4 := by kernel_rfl
theorem c16 : Tryd.prog.cellsOf 25 = 1 := by kernel_rfl

set_option maxRecDepth 100000 in
/-- A Board that came in. -/
theorem open_board {H : Type} {enc : TypeId × Value → H} {W : World} {b0 : Nat} {r : Reach} {v : Value} {d : DataW H} {p : List MemPlace}
    (hv : Value.okWide Tryd.prog W r b0 31 v) (h : DataW.Trod enc Tryd.prog W 0 (fun _ => true) true 31 v d p) :
    ∃ (B : Brd) (an at_ : Option Addr) (cn ct : Nat), v = B.val an cn at_ ct ∧ Held W.heap.size W an at_ B := by
  obtain ⟨cs, rfl, hsz⟩ := okWide_struct Tryd.underlying31 hv
  rw [cBoard] at hsz
  obtain ⟨x, y, z, rfl⟩ : ∃ x y z, cs = #[x, y, z] := by
    obtain ⟨l⟩ := cs
    rcases l with _ | ⟨x, _ | ⟨y, _ | ⟨z, _ | ⟨u, l⟩⟩⟩⟩ <;> simp at hsz
    exact ⟨x, y, z, rfl⟩
  obtain ⟨fuel, hf⟩ := h
  obtain ⟨ys, m, rfl, _, _, hyl, hel⟩ := DataW.trod_struct Tryd.underlying31 hf
  have hcl : (Value.agg #[x, y, z]).cells.toList = [x, y, z] := rfl
  rw [hcl] at hel
  have f0 : DataW.trod enc Tryd.prog W 0 (fun _ => true) true m 3 (([x, y, z].drop 0).take (Tryd.prog.cellsOf 3)) = ys[0]? := hel 0 _ rfl
  have f1 : DataW.trod enc Tryd.prog W 0 (fun _ => true) true m 28 (([x, y, z].drop 1).take (Tryd.prog.cellsOf 28)) = ys[1]? := hel 1 _ rfl
  have f2 : DataW.trod enc Tryd.prog W 0 (fun _ => true) true m 29 (([x, y, z].drop 2).take (Tryd.prog.cellsOf 29)) = ys[2]? := hel 2 _ rfl
  have hl3 : ys.length = 3 := hyl
  rw [c3, List.getElem?_eq_getElem (by omega)] at f0
  rw [cRows, List.getElem?_eq_getElem (by omega)] at f1
  rw [cInts, List.getElem?_eq_getElem (by omega)] at f2
  simp only [List.drop_zero, List.drop_succ_cons, List.take_succ_cons, List.take_zero] at f0 f1 f2
  obtain ⟨n, hn, _, _⟩ := DataW.trod_int Tryd.underlying3 f0
  obtain rfl : x = .int .i64 n := by simpa using hn
  have hN : ∃ (an : Option Addr) (cn : Nat) (rows : List (List Int)), y = .slice an rows.length cn ∧ Rws W.heap.size W an rows := by
    rcases Deep.open_int_rows Tryd.underlying28 Tryd.underlying29 Tryd.underlying3 cInts c3 f1 with ⟨h1, _⟩ | ⟨a, len, cap, A, L, C, Z, h1, _, h3, _, _, h6⟩
    · obtain rfl : y = .slice none 0 0 := by simpa using h1
      exact ⟨none, 0, [], rfl, .inl rfl⟩
    · obtain rfl : y = .slice (some a) len cap := by simpa using h1
      exact ⟨some a, cap, _, by simp, rws_of_open h3 h6⟩
  have hT : ∃ (at_ : Option Addr) (ct : Nat) (turn : List Int), z = .slice at_ turn.length ct ∧ Ints W.heap.size W at_ turn := by
    rcases open_ints Tryd.underlying29 Tryd.underlying3 c3 f2 with ⟨h1, _⟩ | ⟨a, len, cap, zs, h1, _, h3, _, h5, _, h7, _⟩
    · obtain rfl : z = .slice none 0 0 := by simpa using h1
      exact ⟨none, 0, [], rfl, .inl rfl⟩
    · obtain rfl : z = .slice (some a) len cap := by simpa using h1
      simp only [if_true] at h5
      refine ⟨some a, cap, zs.take len, ?_, ints_of_open len (by omega) h7⟩
      have : (zs.take len).length = len := by simp; omega
      rw [this]
  obtain ⟨an, cn, rows, rfl, hR⟩ := hN
  obtain ⟨at_, ct, turn, rfl, hI⟩ := hT
  exact ⟨⟨n, rows, turn⟩, an, at_, cn, ct, rfl, hR, hI⟩

set_option maxRecDepth 100000 in
/-- Four int16 that came in. -/
theorem open_four {H : Type} {enc : TypeId × Value → H} {W : World} {b0 base : Nat} {sp : Nat → Bool} {held : Bool} {r : Reach} {v : Value} {d : DataW H} {p : List MemPlace}
    (hv : Value.okWide Tryd.prog W r b0 26 v) (h : DataW.Trod enc Tryd.prog W base sp held 26 v d p) :
    ∃ a0 a1 a2 a3 : Int, v = .agg #[.int .i16 a0, .int .i16 a1, .int .i16 a2, .int .i16 a3] ∧ (-32768 ≤ a0 ∧ a0 ≤ 32767) ∧ (-32768 ≤ a1 ∧ a1 ≤ 32767) ∧ (-32768 ≤ a2 ∧ a2 ≤ 32767) ∧ (-32768 ≤ a3 ∧ a3 ≤ 32767) := by
  obtain ⟨cs, rfl, hsz⟩ : ∃ cs, v = .agg cs ∧ cs.size = Tryd.prog.cellsOf 26 := by
    simp only [Value.okWide, Tryd.underlying26] at hv
    obtain ⟨cs, h1, h2, _⟩ := hv
    exact ⟨cs, h1, h2⟩
  rw [c4] at hsz
  obtain ⟨x, y, z, u, rfl⟩ : ∃ x y z u, cs = #[x, y, z, u] := by
    obtain ⟨l⟩ := cs
    rcases l with _ | ⟨x, _ | ⟨y, _ | ⟨z, _ | ⟨u, _ | ⟨t, l⟩⟩⟩⟩⟩ <;> simp at hsz
    exact ⟨x, y, z, u, rfl⟩
  obtain ⟨fuel, hf⟩ := h
  obtain ⟨ys, m, rfl, _, _, hyl, hel⟩ := DataW.trod_array Tryd.underlying26 hf
  have hcl : (Value.agg #[x, y, z, u]).cells.toList = [x, y, z, u] := rfl
  rw [hcl, c16] at hel
  have hl4 : ys.length = 4 := hyl
  have f0 := hel 0 (by omega)
  have f1 := hel 1 (by omega)
  have f2 := hel 2 (by omega)
  have f3 := hel 3 (by omega)
  rw [List.getElem?_eq_getElem (by omega)] at f0 f1 f2 f3
  simp only [Nat.zero_mul, Nat.one_mul, Nat.reduceMul, List.drop_zero, List.drop_succ_cons, List.take_succ_cons, List.take_zero] at f0 f1 f2 f3
  obtain ⟨n0, e0, _, g0⟩ := DataW.trod_int Tryd.underlying25 f0
  obtain ⟨n1, e1, _, g1⟩ := DataW.trod_int Tryd.underlying25 f1
  obtain ⟨n2, e2, _, g2⟩ := DataW.trod_int Tryd.underlying25 f2
  obtain ⟨n3, e3, _, g3⟩ := DataW.trod_int Tryd.underlying25 f3
  obtain rfl : x = .int .i16 n0 := by simpa using e0
  obtain rfl : y = .int .i16 n1 := by simpa using e1
  obtain rfl : z = .int .i16 n2 := by simpa using e2
  obtain rfl : u = .int .i16 n3 := by simpa using e3
  exact ⟨n0, n1, n2, n3, rfl, bounds_i16 g0, bounds_i16 g1, bounds_i16 g2, bounds_i16 g3⟩
end Go.Proofs.YtcpjkilnbhfpjaaDoor
