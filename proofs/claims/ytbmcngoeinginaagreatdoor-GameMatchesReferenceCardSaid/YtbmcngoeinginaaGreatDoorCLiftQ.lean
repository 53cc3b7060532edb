/-
 Arguments of the laws of games that are opened: what games are made of, texts.
-/
import Derived.Test.YtbmcngoeinginaaGreatDoorCLift
import Derived.Test.YtbmcngoeinginaaGreatDoorKRows
namespace Go.Proofs.YtbmcngoeinginaaGreatDoor
open Go Go.ChangeShapes Go.WideShapes Go.ChangeAt Go.WideMaps Go.WideElems Go.RowKit
theorem peel (l : List Value) (a b c : Nat) (h : a + b = c) : l.drop a = (l.drop a).take b ++ l.drop c := by
 rw [← h, ← List.drop_drop, List.take_append_drop]
theorem twoC_of (l : List Value) (h : l.length = 2) : ∃ x y, l = [x, y] := by
 rcases l with _ | ⟨x, _ | ⟨y, _ | ⟨u, l⟩⟩⟩ <;> simp at h
 exact ⟨x, y, rfl⟩
theorem one_of (l : List Value) (h : l.length = 1) : ∃ x, l = [x] := by
 rcases l with _ | ⟨x, _ | ⟨y, l⟩⟩ <;> simp at h
 exact ⟨x, rfl⟩
theorem cU8s : Tryz.prog.cellsOf 22 = 1 := by kernel_rfl
theorem cTrs : Tryz.prog.cellsOf 24 = 1 := by kernel_rfl
theorem cTri : Tryz.prog.cellsOf 72 = 3 := by kernel_rfl
theorem cK2 : Tryz.prog.cellsOf 23 = 2 := by kernel_rfl
theorem cSix : Tryz.prog.cellsOf 25 = 6 := by kernel_rfl
theorem cRaw3 : Tryz.prog.cellsOf 27 = 12 := by kernel_rfl
section
variable {H : Type} {enc : TypeId × Value → H} {W : World} {m : Nat} {cs : List Value} {q : DataW H × List MemPlace}
theorem byte_cell (h : DataW.trod enc Tryz.prog W 0 (fun _ => true) true m 5 cs = some q) : ∃ x : Nat, cs = [.int .u8 (x : Int)] ∧ x ≤ 255 := by
 obtain ⟨z, hz, _, hwf⟩ := DataW.trod_int Tryz.underlying5 h
 have hb := bounds_u8 hwf
 obtain ⟨x, rfl⟩ := Int.eq_ofNat_of_zero_le hb.1
 exact ⟨x, hz, by omega⟩
theorem bytes_cells {n : Nat} {t : TypeId} (ht : Tryz.prog.underlying t = some (.array n 5)) (hc : Tryz.prog.cellsOf t = n)
   (h : DataW.trod enc Tryz.prog W 0 (fun _ => true) true m t cs = some q) : ∃ f : Nat → Nat, cs = (List.range n).map (fun i => Value.int .u8 (f i : Int)) ∧ ∀ i, f i ≤ 255 := by
 obtain ⟨zs, m, rfl, _, hl, hzl, hze⟩ := DataW.trod_array ht h
 rw [hc] at hl
 rw [c5] at hze
 have hex : ∀ i, i < n → ∃ x : Nat, x ≤ 255 ∧ cs[i]? = some (.int .u8 (x : Int)) := by
   intro i hi;have h1 := hze i hi;rw [List.getElem?_eq_getElem (by omega), Nat.mul_one] at h1;obtain ⟨x, hz, hx⟩ := byte_cell h1;refine ⟨x, hx, ?_⟩;have := congrArg (·[0]?) hz
   simpa [List.getElem?_take, List.getElem?_drop] using this
 obtain ⟨f, hf, hb⟩ : ∃ f : Nat → Nat, (∀ i, i < n → cs[i]? = some (.int .u8 (f i : Int))) ∧ ∀ i, f i ≤ 255 := by
   refine ⟨fun i => if h : i < n then Classical.choose (hex i h) else 0, fun i hi => ?_, fun i => ?_⟩
   · dsimp only; rw [dif_pos hi]; exact (Classical.choose_spec (hex i hi)).2
   · dsimp only; by_cases h : i < n
     · rw [dif_pos h]; exact (Classical.choose_spec (hex i h)).1
     · rw [dif_neg h]; omega
 refine ⟨f, ?_, hb⟩
 apply List.ext_getElem
 · simp [hl]
 · intro i h1 h2
   have := hf i (by omega);rw [List.getElem?_eq_getElem h1] at this
   simpa using this
def RowIn {α : Type} (en : α → List Value) (ok : α → Prop) (k n : Nat) (W : World) (a : Option Addr) (l : List α) : Prop :=
 (∀ x ∈ l, ok x) ∧ (l = [] ∨ ∃ b off, a = some ⟨b, off, none⟩ ∧ b < n ∧ ∀ j x, l[j]? = some x → ∀ i, i < k → W.cell? ⟨b, off + j * k + i, none⟩ = (en x)[i]?)
theorem RowIn.below {α : Type} {en : α → List Value} {ok : α → Prop} {k n : Nat} {A B : World} {a : Option Addr} {l : List α} (h : RowIn en ok k n A a l) (hb : Below n A B) : RowIn en ok k n B a l := by
 refine ⟨h.1, ?_⟩
 rcases h.2 with h | ⟨b, off, e, hn, hc⟩
 · exact .inl h
 · have hk : B.heap[b]? = A.heap[b]? := hb.block b hn
   exact .inr ⟨b, off, e, hn, fun j x hx i hi => (World.cell?_of_block (a := ⟨b, off + j * k + i, none⟩) hk).trans (hc j x hx i hi)⟩
theorem RowIn.up {α : Type} {en : α → List Value} {ok : α → Prop} {k N : Nat} {w w1 : World} {a : Option Addr} {l : List α} (h : RowIn en ok k N w a l) (hN : N ≤ w.heap.size) (hb : Below w.heap.size w w1) : RowIn en ok k N w1 a l := h.below (hb.mono hN)
theorem RowIn.at_ {α : Type} {en : α → List Value} {ok : α → Prop} {k N : Nat} {w : World} {a : Option Addr} {l : List α} (h : RowIn en ok k N w a l) {j : Nat} (hj : j < l.length) :
   ∃ b off, a = some ⟨b, off, none⟩ ∧ b < N ∧ ok l[j] ∧ ∀ i, i < k → w.cell? ⟨b, off + j * k + i, none⟩ = (en l[j])[i]? := by
 rcases h.2 with rfl | ⟨b, off, e, hn, hc⟩
 · simp at hj
 · exact ⟨b, off, e, hn, h.1 _ (List.getElem_mem _), hc j l[j] (by simp)⟩
theorem row_open {α : Type} {k : Nat} {t e : TypeId} {z : Value} (en : α → List Value) (ok : α → Prop) (ht : Tryz.prog.underlying t = some (.slice e)) (hc : Tryz.prog.cellsOf e = k) (hk : 0 < k)
   (hdec : ∀ (n : Nat) (cs : List Value) (q : DataW H × List MemPlace), DataW.trod enc Tryz.prog W 0 (fun _ => true) true n e cs = some q → ∃ x, ok x ∧ cs = en x)
   (h : DataW.trod enc Tryz.prog W 0 (fun _ => true) true m t [z] = some q) : ∃ a l c, z = .slice a (List.length l) c ∧ RowIn en ok k W.heap.size W a l := by
 rcases DataW.trod_slice ht h with ⟨e, _⟩ | ⟨a, len, cap, elems, rest, n, _, e, _, _, hle, hmx, hlen, hel, _, _⟩
 · obtain rfl : z = .slice none 0 0 := by simpa using e
   exact ⟨none, [], 0, rfl, ⟨(fun _ h => by cases h), .inl rfl⟩⟩
 · obtain rfl : z = .slice (some a) len cap := by simpa using e
   have hex : ∀ i, i < len → ∃ x, ok x ∧ (en x).length = k ∧ ∀ j, j < k → W.cell? ((a.add (i * k)).add j) = (en x)[j]? := by
     intro i hi;have h1 := hel i hi;rw [hc, List.getElem?_eq_getElem (by omega), Option.bind_eq_some_iff] at h1;obtain ⟨cs, hcs, ht⟩ := h1;obtain ⟨x, hx, rfl⟩ := hdec _ _ _ ht;exact ⟨x, hx, (World.cells?_some hcs).2⟩
   by_cases h0 : len = 0
   · subst h0
     exact ⟨some a, [], cap, rfl, ⟨(fun _ h => by cases h), .inl rfl⟩⟩
   · obtain ⟨x0, _, hl0, hx0⟩ := hex 0 (by omega)
     have hc0 := hx0 0 hk;rw [List.getElem?_eq_getElem (by omega)] at hc0;obtain ⟨hs, hb⟩ := addr_form hc0;obtain ⟨b, off, sp⟩ := a
     simp [Addr.add] at hs hb
     subst hs;refine ⟨some ⟨b, off, none⟩, List.ofFn (fun i : Fin len => Classical.choose (hex i.1 i.2)), cap, by rw [List.length_ofFn], ⟨fun x hx => ?_, .inr ⟨b, off, rfl, hb, fun j x hx i hi => ?_⟩⟩⟩
     · obtain ⟨i, rfl⟩ := List.mem_ofFn.1 hx
       exact (Classical.choose_spec (hex i.1 i.2)).1
     · obtain ⟨hj, hx⟩ := List.getElem?_eq_some_iff.1 hx
       have hj' : j < len := by simpa using hj
       rw [List.getElem_ofFn] at hx;subst hx;have := (Classical.choose_spec (hex j hj')).2.2 i hi;generalize Classical.choose (hex j hj') = z at this ⊢;rw [add_none, add_none] at this;exact this
theorem u8s_cell {z : Value} (hq : DataW.trod enc Tryz.prog W 0 (fun _ => true) true m 22 [z] = some q) : ∃ a l c, z = .slice a (List.length l) c ∧ U8s W.heap.size W a l := by
 obtain ⟨a, l, c, rfl, h1, h2⟩ := row_open (fun x : Nat => [Value.int .u8 (x : Int)]) (fun x => x ≤ 255) Tryz.underlying22 c5 (by omega) (fun n cs q h => by
   obtain ⟨x, h1, h2⟩ := byte_cell h;exact ⟨x, h2, h1⟩) hq
 refine ⟨a, l, c, rfl, fun j => ?_, ?_⟩
 · cases hj : l[j]? with
   | none => simp
   | some x => exact h1 x (List.mem_of_getElem? hj)
 · rcases h2 with h2 | ⟨b, off, e, hb, hc⟩
   · exact .inl h2
   · refine .inr ⟨b, off, e, hb, fun j hj => ?_⟩
     have := hc j l[j] (by simp) 0 (by omega)
     simpa [List.getElem?_eq_getElem hj] using this
theorem trs_cell {z : Value} (hq : DataW.trod enc Tryz.prog W 0 (fun _ => true) true m 24 [z] = some q) : ∃ a l c, z = .slice a (List.length l) c ∧ Trs W.heap.size W a l := by
 obtain ⟨a, l, c, rfl, h1, h2⟩ := row_open (fun x : Nat × Nat × Nat => [Value.int .u8 (x.1 : Int), .int .u8 (x.2.1 : Int), .int .u8 (x.2.2 : Int)]) (fun x => x.1 ≤ 255 ∧ x.2.1 ≤ 255 ∧ x.2.2 ≤ 255) Tryz.underlying24 cTri (by omega) (fun n cs q h => by
   obtain ⟨f, h1, h2⟩ := bytes_cells Tryz.underlying72 cTri h;exact ⟨(f 0, f 1, f 2), ⟨h2 _, h2 _, h2 _⟩, h1⟩) hq
 refine ⟨a, l, c, rfl, fun j => ?_, ?_⟩
 · cases hj : l[j]? with
   | none => simp
   | some x => exact h1 x (List.mem_of_getElem? hj)
 · rcases h2 with h2 | ⟨b, off, e, hb, hc⟩
   · exact .inl h2
   · refine .inr ⟨b, off, e, hb, fun j hj => ?_⟩
     have k0 := hc j l[j] (by simp) 0 (by omega);have k1 := hc j l[j] (by simp) 1 (by omega);have k2 := hc j l[j] (by simp) 2 (by omega);rw [List.getElem?_eq_getElem hj];exact ⟨by simpa using k0, by simpa using k1, by simpa using k2⟩
set_option maxRecDepth 100000 in
theorem raw3_cells (h : DataW.trod enc Tryz.prog W 0 (fun _ => true) true m 27 cs = some q) :
   ∃ (x : GRaw) (a0 a1 a2 : Option Addr) (c0 c1 c2 : Nat), GRawIn W.heap.size W a0 a1 a2 x ∧ cs = (x.cells a0 a1 a2 c0 c1 c2).toList := by
 obtain ⟨ys, n, rfl, _, hl, hyl, hel⟩ := DataW.trod_struct Tryz.underlying27 h
 rw [cRaw3] at hl
 have hl6 : ys.length = 6 := hyl
 have f0 : DataW.trod enc Tryz.prog W 0 (fun _ => true) true n 5 ((cs.drop 0).take (Tryz.prog.cellsOf 5)) = ys[0]? := hel 0 _ rfl
 have f1 : DataW.trod enc Tryz.prog W 0 (fun _ => true) true n 5 ((cs.drop 1).take (Tryz.prog.cellsOf 5)) = ys[1]? := hel 1 _ rfl
 have f2 : DataW.trod enc Tryz.prog W 0 (fun _ => true) true n 5 ((cs.drop 2).take (Tryz.prog.cellsOf 5)) = ys[2]? := hel 2 _ rfl
 have f3 : DataW.trod enc Tryz.prog W 0 (fun _ => true) true n 23 ((cs.drop 3).take (Tryz.prog.cellsOf 23)) = ys[3]? := hel 3 _ rfl
 have f4 : DataW.trod enc Tryz.prog W 0 (fun _ => true) true n 24 ((cs.drop 5).take (Tryz.prog.cellsOf 24)) = ys[4]? := hel 4 _ rfl
 have f5 : DataW.trod enc Tryz.prog W 0 (fun _ => true) true n 25 ((cs.drop 6).take (Tryz.prog.cellsOf 25)) = ys[5]? := hel 5 _ rfl
 rw [c5, List.getElem?_eq_getElem (by omega)] at f0 f1 f2
 rw [cK2, List.getElem?_eq_getElem (by omega)] at f3
 rw [cTrs, List.getElem?_eq_getElem (by omega)] at f4
 rw [cSix, List.getElem?_eq_getElem (by omega)] at f5
 obtain ⟨x0, e0, b0⟩ := byte_cell f0
 obtain ⟨x1, e1, b1⟩ := byte_cell f1
 obtain ⟨x2, e2, b2⟩ := byte_cell f2
 obtain ⟨g5, e5, b5⟩ := bytes_cells Tryz.underlying25 cSix f5
 obtain ⟨zs, m3, rfl, _, hl3, hzl, hze⟩ := DataW.trod_array Tryz.underlying23 f3
 rw [cU8s] at hze
 have g0 := hze 0 (by omega)
 have g1 := hze 1 (by omega)
 rw [List.getElem?_eq_getElem (by omega)] at g0 g1
 obtain ⟨v0, v1, hv⟩ := twoC_of ((cs.drop 3).take 2) (by simp; omega)
 obtain ⟨v2, hv2⟩ := one_of ((cs.drop 5).take 1) (by simp; omega)
 rw [hv] at g0 g1
 rw [hv2] at f4
 simp only [Nat.zero_mul, Nat.one_mul, List.drop_zero, List.drop_succ_cons, List.take_succ_cons, List.take_zero] at g0 g1
 obtain ⟨a0, l0, c0, rfl, h0⟩ := u8s_cell g0
 obtain ⟨a1, l1, c1, rfl, h1⟩ := u8s_cell g1
 obtain ⟨a2, l2, c2, rfl, h2⟩ := trs_cell f4
 have e18 : cs.drop 12 = [] := List.drop_eq_nil_of_le (by omega)
 have e : cs.drop 0 = (GRaw.cells ⟨x0, x1, x2, l0, l1, l2, g5⟩ a0 a1 a2 c0 c1 c2).toList := by
   rw [peel cs 0 1 1 rfl, e0, peel cs 1 1 2 rfl, e1, peel cs 2 1 3 rfl, e2, peel cs 3 2 5 rfl, hv, peel cs 5 1 6 rfl, hv2, peel cs 6 6 12 rfl, e5, e18]
   rfl
 exact ⟨⟨x0, x1, x2, l0, l1, l2, g5⟩, a0, a1, a2, c0, c1, c2, ⟨h0, h1, h2, b0, b1, b2, b5⟩, e⟩
end
section
variable {H : Type} {enc : TypeId × Value → H} {W : World} {b0 : Nat} {r : Reach} {v : Value} {d : DataW H} {p : List MemPlace}
theorem agg_of_list {cs : Array Value} {l : Array Value} (h : cs.toList = l.toList) : Value.agg cs = .agg l := by rw [Array.ext' h]
set_option maxRecDepth 100000 in
theorem open_raw (hv : Value.okWide Tryz.prog W r b0 27 v) (h : DataW.Trod enc Tryz.prog W 0 (fun _ => true) true 27 v d p) :
   ∃ (x : GRaw) (a0 a1 a2 : Option Addr) (c0 c1 c2 : Nat), v = .agg (x.cells a0 a1 a2 c0 c1 c2) ∧ GRawIn W.heap.size W a0 a1 a2 x := by
 obtain ⟨cs, rfl, hsz⟩ := okWide_struct Tryz.underlying27 hv
 obtain ⟨fuel, hf⟩ := h
 have hcl : (Value.agg cs).cells.toList = cs.toList := rfl
 rw [hcl] at hf
 obtain ⟨x, a0, a1, a2, c0, c1, c2, hI, e⟩ := raw3_cells hf
 exact ⟨x, a0, a1, a2, c0, c1, c2, agg_of_list e, hI⟩
set_option maxRecDepth 100000 in
theorem open_str (hv : Value.okWide Tryz.prog W r b0 9 v) (h : DataW.Trod enc Tryz.prog W 0 (fun _ => true) true 9 v d p) : ∃ s : List UInt8, v = .string ⟨s.toArray⟩ ∧ s.length ≤ maxLen := by
 obtain ⟨s, rfl, _, _, hs⟩ := Go.ChangeMaps.open_string Tryz.underlying9 hv h
 exact ⟨s.data.toList, by rw [Array.toArray_toList], by rw [Array.length_toList]; exact hs⟩
end
end Go.Proofs.YtbmcngoeinginaaGreatDoor
