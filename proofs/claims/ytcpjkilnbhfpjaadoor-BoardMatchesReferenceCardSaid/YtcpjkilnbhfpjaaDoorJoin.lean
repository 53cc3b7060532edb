/-
  joined of the package board: what it computes, as lists; a row of no slices is made.
-/
import Derived.Test.YtcpjkilnbhfpjaaDoorValues
import Derived.Laws.OwnMore
namespace Go.Proofs.YtcpjkilnbhfpjaaDoor
open Go Go.RowKit Go.Shelf

def addAt (rows : List (List Int)) (i : Nat) (x : Int) : List (List Int) := rows.set i (rows[i]?.getD [] ++ [x])
def joinStep (c : Nat) (rows : List (List Int)) (to : Int) : List (List Int) := addAt (addAt rows c to) to.toNat c
def joinTo (B : Brd) (n : Nat) : Nat → List (List Int)
  | 0 => List.replicate n []
  | k + 1 => (stepsS B k).foldl (joinStep k) (joinTo B n k)

structure JoinOk (n m : Nat) (rows : List (List Int)) : Prop where
  len : rows.length = n
  row : ∀ r ∈ rows, r.length ≤ m ∧ ∀ x ∈ r, 0 ≤ x ∧ x < (n : Int)

theorem JoinOk.at_ {n m : Nat} {rows : List (List Int)} (h : JoinOk n m rows) (i : Nat) : (rows[i]?.getD []).length ≤ m ∧ ∀ x ∈ rows[i]?.getD [], 0 ≤ x ∧ x < (n : Int) := by
  cases e : rows[i]? with
  | none => simp
  | some r => exact h.row r (List.mem_of_getElem? e)

theorem addAt_ok {n m : Nat} {rows : List (List Int)} (h : JoinOk n m rows) (i : Nat) (x : Int) (hx : 0 ≤ x ∧ x < (n : Int)) : JoinOk n (m + 1) (addAt rows i x) := by
  refine ⟨by simp [addAt, h.len], fun r hr => ?_⟩
  rcases List.mem_or_eq_of_mem_set hr with hr | rfl
  · exact ⟨Nat.le_succ_of_le (h.row r hr).1, (h.row r hr).2⟩
  · refine ⟨by simp; exact (h.at_ i).1, fun y hy => ?_⟩
    rcases List.mem_append.1 hy with hy | hy
    · exact (h.at_ i).2 y hy
    · rw [List.mem_singleton.1 hy]; exact hx

theorem joinStep_ok {n m c : Nat} {rows : List (List Int)} (h : JoinOk n m rows) (hc : c < n) {to : Int} (ht : 0 ≤ to ∧ to < (n : Int)) : JoinOk n (m + 2) (joinStep c rows to) :=
  addAt_ok (addAt_ok h c to ht) _ _ (by omega)

theorem joinFold_ok {n c : Nat} (hc : c < n) : ∀ (l : List Int) (m : Nat) (rows : List (List Int)), JoinOk n m rows → (∀ x ∈ l, 0 ≤ x ∧ x < (n : Int)) → JoinOk n (m + 2 * l.length) (l.foldl (joinStep c) rows)
  | [], _, _, h, _ => h
  | x :: l, m, rows, h, hl => by
    have := joinFold_ok hc l _ _ (joinStep_ok h hc (hl x (by simp))) (fun y hy => hl y (by simp [hy]))
    simp only [List.foldl_cons, List.length_cons]
    rw [show m + 2 * (l.length + 1) = m + 2 + 2 * l.length by omega]
    exact this

theorem JoinOk.mono {n m m' : Nat} {rows : List (List Int)} (h : JoinOk n m rows) (hm : m ≤ m') : JoinOk n m' rows := ⟨h.len, fun r hr => ⟨Nat.le_trans (h.row r hr).1 hm, (h.row r hr).2⟩⟩

theorem stepsS_in {B : Brd} (hB : B.Ok) (c : Int) : ∀ x ∈ stepsS B c, 0 ≤ x ∧ x < B.cells := by
  intro x hx
  unfold stepsS stepsTo at hx
  rw [List.mem_filter, List.mem_map] at hx
  obtain ⟨⟨d, _, rfl⟩, h⟩ := hx
  exact ⟨by simpa using h, (nextS_range hB d c).2.1⟩

theorem joinTo_ok {B : Brd} (hB : B.Ok) {n : Nat} (hn : B.cells = n) : ∀ k, k ≤ n → JoinOk n (16 * k) (joinTo B n k)
  | 0, _ => ⟨by simp [joinTo], fun r hr => by rw [List.eq_of_mem_replicate hr]; simp⟩
  | k + 1, hk => by
    have h8 := Nat.le_trans (stepsTo_le B k B.next.length) hB.dirs
    have := joinFold_ok (c := k) hk (stepsS B k) _ _ (joinTo_ok hB hn k (by omega)) (by rw [← hn]; exact stepsS_in hB k)
    refine this.mono ?_
    have h8' : (stepsS B k).length ≤ 8 := h8
    omega

theorem info_row : (Tryd.prog.info? 29).map (fun i => (i.zero, i.size, i.bytes)) = some (some (.slice none 0 0), 1, 24) := by kernel_rfl

/-- n slices that hold nothing. -/
def nils (n : Nat) : List Value := List.replicate n (.slice none 0 0)

theorem wpListIn_make_rows {F : Fence} {nF : Nat} {w : World} {ops : Array Oper} {rest : List Oper} {o : Oper} {a : Act} {Q : Exit → Act → World → Prop}
    (hg : o.guard = none) (l c : Operand) (hop : o.op = Op.makeSlice 28 l c) (n : Nat) (h64 : n ≤ 64) (C : Int) (hC : C = n) (hl : a.eval l = .int .i64 C) (hc : a.eval c = .int .i64 C)
    (hK : ∀ w', w' = w.alloc (.cells (nils n).toArray 29) → wpListIn F nF Tryd.prog ops Q rest (a.put o.dst (.slice (some ⟨w.heap.size, 0, none⟩) n n)) w') :
    wpListIn F nF Tryd.prog ops Q (o :: rest) a w := by
  obtain ⟨i0, hi, hz0, hz1, hz2⟩ := info_parts info_row
  refine wpListIn_plain hg fun K hK' => ?_
  subst hC
  have hr := run_make (P := Tryd.prog) w 28 29 i0 (.slice none 0 0) Tryd.underlying28 hi hz0 .i64 .i64 n n (by omega) (Int.le_refl _) (by rw [hz2]; omega) (by omega)
  simp only [Int.toNat_natCast, hz1, Nat.mul_one] at hr
  have e : madeCells (Value.slice none 0 0).cells n = (nils n).toArray := by
    apply Array.ext'
    rw [show (Value.slice none 0 0).cells = #[Value.slice none 0 0] from rfl, toList_madeCells_one]
    simp [nils]
  rw [e] at hr
  unfold Oper.wpIn
  refine ⟨?_, ?_⟩
  · simp [Oper.about, hop]
  · rw [Oper.semAt_plain F _ _ (by rw [hop]; intro c hc'; cases hc')]
    simp [execOp, hop, hl, hc, hr, Result.andThen]
    exact hK' _ _ (hK _ rfl)

/-- The rows just made. -/
theorem ownRows_new (h g n : Nat) (G : Value → Prop) (W : World) (hG : G (.slice none 0 0)) (hg : W.heap[g]? = some (.cells (nils n).toArray 29 (0, 0))) : OwnRows h g n G (List.replicate n []) (nils n) W := by
  refine ⟨hg, by simp [nils], by simp, ?_, ?_, ?_⟩
  · intro i v hv
    have hi : i < n := by have := (List.getElem?_eq_some_iff.1 hv).1; simpa [nils] using this
    have : v = .slice none 0 0 := List.eq_of_mem_replicate (List.mem_of_getElem? hv)
    subst this
    simp only [List.getElem?_replicate, hi, if_true, Option.getD_some]
    exact World.ownsRow_nil _ _ _ _
  · intro i j v u hv _ _ hn
    have : v = .slice none 0 0 := List.eq_of_mem_replicate (List.mem_of_getElem? hv)
    subst this
    exact absurd rfl hn
  · intro v hv
    rw [List.eq_of_mem_replicate hv]; exact hG

theorem OwnRows.kept {h g n : Nat} {G : Value → Prop} {rows : List (List Int)} {vs : List Value} {X Y : World} {row : Option Nat} (hr : OwnRows h g n G rows vs X) (hg : X.grownBy Y row)
    (ho : ∀ r, row = some r → ∃ o : Obj, X.heap[r]? = some o ∧ o.isCells = false) : OwnRows h g n G rows vs Y := by
  refine hr.alters (Alters.of_grown hg) (fun e => ?_) (fun k e v hv e2 => ?_)
  · obtain ⟨o, ho, hc⟩ := ho g e.symm
    have := hr.heap
    rw [ho] at this; cases this; cases hc
  · obtain ⟨o, ho, hc⟩ := ho k e.symm
    obtain ⟨i, hi⟩ := List.getElem?_of_mem hv
    exact Go.Proofs.YtcpjkilnbhfpjaaDoor.not_own (hr.own i v hi) ho hc e2
end Go.Proofs.YtcpjkilnbhfpjaaDoor
