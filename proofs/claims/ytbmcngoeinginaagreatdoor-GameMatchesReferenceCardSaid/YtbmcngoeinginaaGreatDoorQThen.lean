/-
 A region that draws its order: a head of quiet operations, taken in the text's order; behind it whatever order of the rest.
-/
import Derived.Test.YtbmcngoeinginaaGreatDoorCBas
import Derived.OrdersHeld
import Derived.Deep.RegionHeld3
namespace Go.Proofs.YtbmcngoeinginaaGreatDoor
open Go Go.RowKit
section
variable {P : Program} {ops : Array Oper} {md : Region.Mode} {C : World → Prop}
def chain2B (md : Region.Mode) (ops : Array Oper) (n : Nat) : Bool :=
 (List.range ops.size).all fun t => decide (t ≤ n) || (List.range ops.size).any fun s => decide (n ≤ s) && Region.waitsFor md ops t s
theorem tail_waits2 {n : Nat} {listed : Array Bool} (hs : Region.sinkB md ops n = true) (hc : chain2B md ops n = true) (hn : n < ops.size) (inv : HeadInv md ops n listed) :
   ∀ (d i : Nat), n - i = d → i < n → listed.getD i true = false → ∀ t, n ≤ t → t ∉ Region.ready md ops listed := by
 intro d
 induction d using Nat.strongRecOn with
 | _ d ih =>
   intro i hd hi hun t ht hr;obtain ⟨_, ot, hot, hall⟩ := mem_ready.1 hr;have htlt : t < ops.size := (Array.getElem?_eq_some_iff.1 hot).1
   by_cases htn : t = n
   · subst htn
     have h1 := List.all_eq_true.1 hs i (List.mem_range.2 hi);obtain ⟨j, hj, hj2⟩ := List.any_eq_true.1 h1;simp only [Bool.and_eq_true, decide_eq_true_eq] at hj2;obtain ⟨oj, hoj, e, he, hb, hon⟩ := Region.waitsFor_spec hj2.2
     have hjle : j ≤ t := by have := List.mem_range.1 hj; omega
     by_cases hjt : j = t
     · subst hjt
       have : oj = ot := Option.some.inj (hoj.symm.trans hot);subst this;have h2 := hall e he hb;rw [hon, getD_both hun] at h2
       cases h2
     · cases hl : listed.getD j false with
       | true =>
         have h2 := inv.closed j oj hoj hl e he hb;rw [hon, getD_both hun] at h2
         cases h2
       | false =>
         have hjs : j < listed.size := by rw [inv.size]; omega
         exact ih (t - j) (by omega) j rfl (by omega) (getD_in hjs hl) t (Nat.le_refl _) hr
   · have h1 := List.all_eq_true.1 hc t (List.mem_range.2 htlt)
     simp only [Bool.or_eq_true, decide_eq_true_eq] at h1
     rcases h1 with h1 | h1
     · omega
     · obtain ⟨s, hs2, hw⟩ := List.any_eq_true.1 h1
       simp only [Bool.and_eq_true, decide_eq_true_eq] at hw;obtain ⟨oj, hoj, e, he, hb, hon⟩ := Region.waitsFor_spec hw.2;have : oj = ot := Option.some.inj (hoj.symm.trans hot);subst this;have h2 := hall e he hb;rw [hon, getD_both (inv.tail s hw.1 (List.mem_range.1 hs2))] at h2
       cases h2
theorem headQ_take2 {n i : Nat} {oi : Oper} {v : Value} {L : Array Bool → Act → Prop} (hi : ops[i]? = some oi) (hsel : ∀ (j : Nat) (o : Oper) cs b, ops[j]? = some o → o.op ≠ .select cs b)
   (hs : Region.sinkB md ops n = true) (hc : chain2B md ops n = true) (hn : n < ops.size) (hin : i < n) (hdone : ∀ s a, L s a → ∀ j ∈ Region.ready md ops s, n ≤ j) (f : Nat) :
   ∀ (s : Array Bool) (a : Act), HeadInv md ops n s →
     (∀ j oj, ops[j]? = some oj → j ≠ i → s.getD j true = false → (∀ e ∈ oj.after, Region.binds md e = true → e.on ≠ i) → oi.apart ops oj = true) →
     i ∈ Region.ready md ops s → YieldsIn P ops C oi v a → HeadQ P md ops C n L f (s.setIfInBounds i true) (a.put oi.dst v) → HeadQ P md ops C n L (f + 1) s a := by
 induction f with
 | zero =>
   intro s a inv _ hr hy H;have hun := (mem_ready.1 hr).1
   refine ⟨fun h => (by rw [h] at hr; cases hr), fun j hj => ?_⟩
   have hjn : j < n := Nat.lt_of_not_le fun h => tail_waits2 hs hc hn inv _ i rfl hin hun j h hj
   refine ⟨hjn, ?_⟩
   by_cases e : j = i
   · subst e; exact hy.qOp hi H
   · exact absurd hjn (Nat.not_lt_of_le (hdone _ _ H j (ready_mono hj e)))
 | succ f ih =>
   intro s a inv hfree hr hy H;have hun := (mem_ready.1 hr).1
   refine ⟨fun h => (by rw [h] at hr; cases hr), fun j hj => ?_⟩
   have hjn : j < n := Nat.lt_of_not_le fun h => tail_waits2 hs hc hn inv _ i rfl hin hun j h hj
   refine ⟨hjn, ?_⟩
   by_cases e : j = i
   · subst e; exact hy.qOp hi H
   · have hH := (H.2 j (ready_mono hj e)).2
     obtain ⟨hjun, oj, hoj, hall⟩ := mem_ready.1 hj
     have hno : ∀ x ∈ oj.after, Region.binds md x = true → x.on ≠ i := fun x hx hb he => by
       have h1 := hall x hx hb;rw [he, getD_both hun] at h1
       cases h1
     refine qOp_mono (fun a' h' => ?_) (qOp_put hoj (hfree j oj hoj e hjun hno) (fun cs b => hsel i oi cs b hi) (fun cs b => hsel j oj cs b hoj) hy hH);refine ih (s.setIfInBounds j true) a' (inv.set hj hjn) (fun k ok hk hki hku => hfree k ok hk hki ?_) (ready_mono hr (Ne.symm e)) h'.1 ?_
     · by_cases ejk : j = k
       · rw [← ejk]; exact hjun
       · rwa [getD_set_ne true ejk] at hku
     · rw [Array.setIfInBounds_comm _ _ e]; exact h'.2
def marks : Nat → Nat → Array Bool → Array Bool
 | 0, _, s => s
 | f + 1, k, s => marks f (k + 1) (s.setIfInBounds k true)
def lexHead2 (md : Region.Mode) (ops : Array Oper) (n : Nat) : Nat → Nat → Array Bool → Bool
 | 0, _, s => (Region.ready md ops s).all fun j => decide (n ≤ j)
 | f + 1, k, s => (Region.ready md ops s).contains k && Region.free md ops s k && lexHead2 md ops n f (k + 1) (s.setIfInBounds k true)
theorem headQ_lex2 {n : Nat} {Lq : Act → Prop} (hsel : Region.noSelect ops = true) (hs : Region.sinkB md ops n = true) (hc : chain2B md ops n = true) (hn : n < ops.size) :
   ∀ (l : List Oper) (k : Nat) (s : Array Bool) (a : Act), (∀ j, j < l.length → l[j]? = ops[k + j]?) → k + l.length = n → HeadInv md ops n s →
   lexHead2 md ops n l.length k s = true → wpQuiet P ops C Lq l a → HeadQ P md ops C n (fun s' a' => ((s' = marks l.length k s ∧ ∀ j ∈ Region.ready md ops s', n ≤ j)) ∧ Lq a') l.length s a := by
 intro l
 induction l with
 | nil =>
   intro k s a _ _ _ hB h;refine ⟨⟨rfl, fun j hj => ?_⟩, h⟩;have := List.all_eq_true.1 hB j hj
   simpa using this
 | cons o l ih =>
   intro k s a hl hk inv hB h
   have h0 : ops[k]? = some o := by simpa using (hl 0 (by simp)).symm
   simp only [List.length_cons, lexHead2, Bool.and_eq_true] at hB;obtain ⟨⟨hr, hf⟩, hB'⟩ := hB;rw [List.length_cons] at hk
   have hkn : k < n := by omega
   have hr' : k ∈ Region.ready md ops s := by simpa using hr
   obtain ⟨v, hy, hK⟩ := yieldsIn_of_qOp (C := C) h0 (show qOp P ops C k (wpQuiet P ops C Lq l) a by unfold qOp; simp only [h0]; exact h)
   exact headQ_take2 h0 (Region.noSelect_spec hsel) hs hc hn hkn (fun s' a' hL => hL.1.2) l.length s a inv (Region.free_spec h0 hf) hr' hy
     (ih (k + 1) _ _ (fun j hj => by have := hl (j + 1) (by simp; omega); simpa [Nat.add_assoc, Nat.add_comm 1 j] using this) (by omega) (inv.set hr' hkn) hB' hK)
def lexThenB (md : Region.Mode) (ops : Array Oper) (n : Nat) : Bool :=
 Region.noSelect ops && decide (n < ops.size) && Region.sinkB md ops n && chain2B md ops n && lexHead2 md ops n n 0 (Array.replicate ops.size false)
theorem wp_region_quiet_then {id : Nat} {Q : Exit → Act → World → Prop} {a : Act} {w : World} {l : List Oper} (n : Nat) (C : World → Prop) (hC : C w.drew) (hm : P.follows .mixedOrders = true) (hB : lexThenB .any l.toArray n = true)
   (h : wpQuiet P l.toArray C (fun a' => ∀ w', C w' → wpAnyH P .any l.toArray Q (fun _ => True) (l.toArray.size - n) (marks n 0 (Array.replicate l.toArray.size false)) a' w') (l.take n) a) : (Code.region id l.toArray true).wp P Q a w := by
 simp only [lexThenB, Bool.and_eq_true, decide_eq_true_eq] at hB
 obtain ⟨⟨⟨⟨hsel, hn⟩, hs⟩, hc⟩, hlex⟩ := hB
 have hn' : n < l.length := by simpa using hn
 have htl : (l.take n).length = n := by simp; omega
 have inv0 : HeadInv .any l.toArray n (Array.replicate l.toArray.size false) :=
   ⟨by simp, fun j oj _ hl => (by rw [getD_replicate_false] at hl; cases hl), fun t _ ht => getD_in (by simpa using ht) (getD_replicate_false _ _)⟩
 have H := headQ_lex2 (C := C) (md := .any) hsel hs hc hn (l.take n) 0 _ a (fun j hj => by
   have hj' : j < n := by rw [htl] at hj; exact hj
   simp [hj']) (by simpa using htl) inv0 (by rw [htl]; exact hlex) h
 refine wp_region_any hm ?_
 rw [htl] at H
 have hw := any_of_headQ (C := C) (Q' := Q) (g := l.toArray.size - n) (fun s a' w' hw' hL => by
   obtain ⟨⟨rfl, _⟩, hL⟩ := hL;exact wpAny_of_held _ _ _ _ (hL w' hw')) _ _ _ w.drew hC H
 rw [show n + (l.toArray.size - n) = l.toArray.size by omega] at hw
 exact hw
end
end Go.Proofs.YtbmcngoeinginaaGreatDoor
