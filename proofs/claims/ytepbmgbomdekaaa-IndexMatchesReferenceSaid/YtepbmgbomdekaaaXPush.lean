/-
  Appends of one element to a list of the call's own, whatever its type.
-/
import Derived.Test.YtepbmgbomdekaaaXGm
import Derived.RangeFuncBox
import Derived.Maps.AppendAt
namespace Go.Proofs.Ytepbmgbomdekaaa
open Go Go.RowKit

theorem step_pushC {w : World} {ops : Array Oper} {o : Oper} {a : Act} {K : Act → World → Prop} {Q : Exit → Act → World → Prop} {X : Prop} (hgd : o.guard = none) (t e : TypeId) (z : Value) (size bytes : Nat) (ht : Try.prog.underlying t = some (.slice e))
    (hinfo : (Try.prog.info? e).map (fun i => (i.zero, i.size, i.bytes)) = some (some z, size, bytes)) (hzs : z.cells.size = size) (hsz : 0 < size) (hby : bytes ≤ 1000) (s y : Operand)
    (ho : o.op = .call { callee := .builtin .append, args := #[s, y], argTypes := #[t, t] }) (n : Nat) (v : Value) (k : Nat) (xs : List Value) (hs : a.eval s = v) (h : w.ownsRow n e size v k xs) (hk : k < 2000) (hn : n ≤ w.heap.size)
    (b c : Nat) (news : List Value) (hy : a.eval y = .slice (some ⟨b, 0, none⟩) 1 c) (hl : news.length = size) (hb : w.heap[b]? = some (.cells news.toArray e (0, 0))) (h1 : ∀ u ∈ news, u.oneCell' = true)
    (hK : ∀ g cap w', w'.ownsRow n e size (.slice (some ⟨g, 0, none⟩) (k + 1) cap) (k + 1) (xs ++ news) → w.grownBy w' v.ownBlock → (v.ownBlock = some g ∨ g = w.heap.size) → K (a.put o.dst (.slice (some ⟨g, 0, none⟩) (k + 1) cap)) w') :
    if Region.wanted o (yielded ops a.tmps) = true then Oper.wp Try.prog o a w K Q else X := by
  have hw : Region.wanted o (yielded ops a.tmps) = true := by simp [Region.wanted, hgd]
  rw [if_pos hw]
  obtain ⟨i0, hi, hz0, hz1, hz2⟩ := info_parts hinfo
  obtain ⟨v', w', hr, h2, h3, _, h5⟩ := run_append_own_at (P := Try.prog) w n t o.type e i0 z size bytes ht hi hz0 hz1 hz2 hzs hsz v k xs h ⟨b, 0, none⟩ 1 c news (by omega)
    (by intro j u hj
        have e : (⟨b, 0, none⟩ : Addr).add j = ⟨b, j, none⟩ := by by_cases h : j = 0 <;> simp [Addr.add, h]
        rw [e]
        unfold World.cell?
        rw [hb]
        simpa using hj) h1 (by unfold maxLen; omega)
    (Nat.le_trans (Nat.mul_le_mul (show k + 1 ≤ 2000 by omega) hby) (by omega)) hn
  obtain ⟨g, cap, rfl⟩ := ownsRow_succ h2
  unfold Oper.wp
  simp [execOp, ho, resolve, invoke, builtin, hs, hy, hr, Result.andThen]
  refine hK g cap w' h2 h3 ?_
  rcases h5 with h | h
  · left; rw [← h]; rfl
  · right; simpa [Value.ownBlock] using h
theorem wpList_pushC {w : World} {ops : Array Oper} {rest : List Oper} {o : Oper} {a : Act} {Q : Exit → Act → World → Prop} (hgd : o.guard = none) (t e : TypeId) (z : Value) (size bytes : Nat) (ht : Try.prog.underlying t = some (.slice e))
    (hinfo : (Try.prog.info? e).map (fun i => (i.zero, i.size, i.bytes)) = some (some z, size, bytes)) (hzs : z.cells.size = size) (hsz : 0 < size) (hby : bytes ≤ 1000) (s y : Operand)
    (ho : o.op = .call { callee := .builtin .append, args := #[s, y], argTypes := #[t, t] }) (n : Nat) (v : Value) (k : Nat) (xs : List Value) (hs : a.eval s = v) (h : w.ownsRow n e size v k xs) (hk : k < 2000) (hn : n ≤ w.heap.size)
    (b c : Nat) (news : List Value) (hy : a.eval y = .slice (some ⟨b, 0, none⟩) 1 c) (hl : news.length = size) (hb : w.heap[b]? = some (.cells news.toArray e (0, 0))) (h1 : ∀ u ∈ news, u.oneCell' = true)
    (hK : ∀ g cap w', w'.ownsRow n e size (.slice (some ⟨g, 0, none⟩) (k + 1) cap) (k + 1) (xs ++ news) → w.grownBy w' v.ownBlock → (v.ownBlock = some g ∨ g = w.heap.size) → wpList Try.prog ops Q rest (a.put o.dst (.slice (some ⟨g, 0, none⟩) (k + 1) cap)) w') :
    wpList Try.prog ops Q (o :: rest) a w :=
  wpList_plain hgd fun K hK' => by
    have h2 := step_pushC (w := w) (ops := ops) (Q := Q) (K := K) (X := True) hgd t e z size bytes ht hinfo hzs hsz hby s y ho n v k xs hs h hk hn b c news hy hl hb h1 (fun g cap w' h1 h2 h3 => hK' _ _ (hK g cap w' h1 h2 h3))
    rw [if_pos (by simp [Region.wanted, hgd])] at h2
    exact h2
theorem info_kindC : (Try.prog.info? 80).map (fun i => (i.zero, i.size, i.bytes)) = some (some (.agg #[.string ⟨#[]⟩, .slice none 0 0, .bool false]), 3, 48) := by kernel_rfl
end Go.Proofs.Ytepbmgbomdekaaa
