/-
  What all laws of boards with arbitrary steps begin with.
-/
import Derived.Test.YtcpjkilnbhfpjaaDoorSan
import Derived.Test.YtcpjkilnbhfpjaaDoorWild
namespace Go.Proofs.YtcpjkilnbhfpjaaDoor
open Go Go.RowKit Go.Shelf

/-- The 35 cells of a Raw. -/
structure RawIn (xs : Array Value) (x0 x1 x2 : Nat) (nx : Nat → Nat) : Prop where
  size : xs.size = 35
  b0 : x0 ≤ 255
  b1 : x1 ≤ 255
  b2 : x2 ≤ 255
  bn : ∀ j, nx j ≤ 255
  e0 : xs[0]? = some (.int .u8 x0)
  e1 : xs[1]? = some (.int .u8 x1)
  e2 : xs[2]? = some (.int .u8 x2)
  en : ∀ j, j < 32 → xs[3 + j]? = some (.int .u8 (nx j))

theorem info_raw : (Tryd.prog.info? 24).map (·.size) = some 35 := by kernel_rfl

/-- What is known of a board that Wild made. -/
structure Small (B : Brd) : Prop where
  valid : validS B = true
  ok : B.Ok
  rows : ∀ r ∈ B.next, r.length ≤ 1000
  turns : B.turn.length ≤ 1000
  cells : B.cells ≤ 8
  dirs : B.next.length ≤ 4
  turn1 : 1 ≤ B.turn.length

theorem wild_small {xs : Array Value} {x0 x1 x2 : Nat} {nx : Nat → Nat} (_ : RawIn xs x0 x1 x2 nx) : Small (wildS (1 + x0 % 8) (1 + x1 % 4) x2 nx) := by
  have hv := wild_valid (1 + x0 % 8) (1 + x1 % 4) x2 nx (by omega) (by omega) (by omega) (by omega)
  obtain ⟨h1, h2, h3⟩ := ok_of_valid hv
  have ht := h1.turn
  have hd : (wildS (1 + x0 % 8) (1 + x1 % 4) x2 nx).next.length = 1 + x1 % 4 := by simp [wildS]
  exact ⟨hv, h1, h2, h3, by simp only [wildS]; omega, by omega, by omega⟩

theorem wild_in {xs : Array Value} {x0 x1 x2 : Nat} {nx : Nat → Nat} (h : RawIn xs x0 x1 x2 nx) (w : World) :
    Calls Tryd.prog 12 #[.agg xs] w fun e W' => ∃ an cn at_ ct, e = .returned ((wildS (1 + x0 % 8) (1 + x1 % 4) x2 nx).val an cn at_ ct) ∧ Held W'.heap.size W' an at_ (wildS (1 + x0 % 8) (1 + x1 % 4) x2 nx) ∧ Below w.heap.size w W' :=
  wild_any xs x0 x1 x2 nx h.size h.b0 h.b1 h.b2 h.bn h.e0 h.e1 h.e2 h.en w

/-- The turn of a valid board leads back. -/
theorem Small.turn_at {B : Brd} (h : Small B) {d : Nat} (hd : d < B.next.length) : ∃ t : Nat, B.turn[d]?.getD 0 = (t : Int) ∧ t < B.next.length ∧ B.turn[t]?.getD 0 = (d : Int) := by
  have hv := h.valid
  unfold validS turnS at hv
  simp only [Bool.and_eq_true, decide_eq_true_eq, List.all_eq_true, List.mem_range] at hv
  have := hv.2.2 d hd
  unfold okTurn at this
  simp only [Bool.and_eq_true, decide_eq_true_eq] at this
  obtain ⟨t, ht⟩ := Int.eq_ofNat_of_zero_le this.1.1
  exact ⟨t, ht, by omega, by rw [ht] at this; exact this.2⟩

theorem line_none {B : Brd} (h : B.turn.length = B.next.length) (c o : Int) (ho : o < 0 ∨ (B.next.length : Int) ≤ o) : lineOf B 0 o c = [] := by
  have hm : meantS B.turn 0 o = -1 := by
    unfold meantS
    rw [if_pos (by omega)]
  unfold lineOf lineS
  rw [hm]
  have hn : nextS B (-1) c = -1 := by unfold nextS; rw [if_neg (by omega)]
  exact lineTo_stop B (-1) c 64 [] c (.inl (by rw [hn]; omega))

/-- 'l = append(l, x)', l the call's own. -/
theorem wpList_push {w : World} {ops : Array Oper} {rest : List Oper} {o : Oper} {a : Act} {Q : Exit → Act → World → Prop} (hgd : o.guard = none) (s y : Operand)
    (ho : o.op = .call { callee := .builtin .append, args := #[s, y], argTypes := #[29, 29] }) (n : Nat) (v : Value) (l : List Int) (hs : a.eval s = v) (h : OwnInts n w v l) (hl : l.length < 2000) (hn : n ≤ w.heap.size)
    (ad : Addr) (x : Int) (hy : a.eval y = .slice (some ad) 1 1) (hx : w.cell? ad = some (.int .i64 x))
    (hK : ∀ g cap w', OwnInts n w' (.slice (some ⟨g, 0, none⟩) (l.length + 1) cap) (l ++ [x]) → w.grownBy w' v.ownBlock → (v.ownBlock = some g ∨ g = w.heap.size) → wpList Tryd.prog ops Q rest (a.put o.dst (.slice (some ⟨g, 0, none⟩) (l.length + 1) cap)) w') :
    wpList Tryd.prog ops Q (o :: rest) a w :=
  wpList_plain hgd fun K hK' => by
    have h2 := step_append_at (w := w) (ops := ops) (Q := Q) (K := K) (E := True) hgd s y ho n v l hs h hl hn ad x hy hx (fun g cap w' h1 h2 h3 => hK' _ _ (hK g cap w' h1 h2 h3))
    rw [if_pos (by simp [Region.wanted, hgd])] at h2
    exact h2

theorem own_lit (W : World) (x : Int) : OwnInts W.heap.size (W.alloc (.cells #[.int .i64 x] 3)) (.slice (some ⟨W.heap.size, 0, none⟩) 1 1) [x] :=
  ⟨rfl, .inr ⟨W.heap.size, 1, #[.int .i64 x], rfl, Nat.le_refl _, World.alloc_heap_new _ _, Nat.le_refl _, by unfold maxLen; omega, rfl, rfl⟩⟩
end Go.Proofs.YtcpjkilnbhfpjaaDoor
