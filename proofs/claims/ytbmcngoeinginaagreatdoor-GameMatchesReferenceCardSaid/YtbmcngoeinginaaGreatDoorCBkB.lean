/-
 The text of a game is read back: the lines' steps, folded.
-/
import Derived.Test.YtbmcngoeinginaaGreatDoorCBk
import Derived.Test.YtbmcngoeinginaaGreatDoorPTextM
namespace Go.Proofs.YtbmcngoeinginaaGreatDoor
open Go Go.RowKit Go.Lib
theorem num_all : ((List.range 66).all fun k => decide (numS (itoa ((k : Int) - 1)) = (k : Int) - 1)) = true := by decide +kernel
theorem num_back {n : Int} (h : -1 ≤ n ∧ n ≤ 64) : numS (itoa n) = n := by
 have h1 := List.all_eq_true.1 num_all (n + 1).toNat (List.mem_range.2 (by omega))
 rw [decide_eq_true_eq] at h1
 have e : (((n + 1).toNat : Nat) : Int) - 1 = n := by omega
 rw [e] at h1
 exact h1
theorem nums_back : ∀ l : List Int, (∀ x ∈ l, -1 ≤ x ∧ x ≤ 64) → (l.map itoa).map numS = l
 | [], _ => rfl
 | x :: l, h => by
   rw [List.map_cons, List.map_cons, num_back (h x (by simp)), nums_back l (fun y hy => h y (by simp [hy]))]
theorem itoa_words (l : List Int) : ∀ y ∈ l.map itoa, WordB y := fun y hy => by
 obtain ⟨z, _, rfl⟩ := List.mem_map.1 hy
 exact word_itoa z
def dirL (r : List Int) : List UInt8 := Lib.join (wDir :: r.map itoa) [32]
theorem fold_dirs : ∀ (rows : List (List Int)) (g : GameD), (∀ r ∈ rows, r.length ≤ 64 ∧ ∀ x ∈ r, -1 ≤ x ∧ x ≤ 64) → (rows.map dirL).foldl lineG g = { g with b := { g.b with next := g.b.next ++ rows } }
 | [], g, _ => by simp
 | r :: rows, g, h => by
   have hr := h r (by simp)
   have e : lineG g (dirL r) = { g with b := { g.b with next := g.b.next ++ [r] } } := by
     unfold dirL
     rw [line_step g 1 wDir _ ⟨by decide, by decide⟩ (itoa_words r) (by rw [List.length_map]; omega) keys_no.2.1]
     show { g with b := { g.b with next := g.b.next ++ [(r.map itoa).map numS] } } = _
     rw [nums_back r hr.2]
   rw [List.map_cons, List.foldl_cons, e, fold_dirs rows _ (fun x hx => h x (by simp [hx]))]
   simp
def progLn (p : List (Int × Int)) : List UInt8 := Lib.join (wProg :: p.map writtenS) [32]
theorem prog_step (g : GameD) {p : List (Int × Int)} (h : validP p 8 6 4 = true) : lineG g (progLn p) = { g with kinds := addP g.kinds p } := by
 unfold progLn
 have hl := valid_len h
 rw [line_step g 4 wProg _ ⟨by decide, by decide⟩ (word_step h) (by rw [List.length_map]; omega) keys_no.2.2.2.2.1]
 show { g with kinds := addP g.kinds (parseS (Lib.join (p.map writtenS) [32])).1 } = _
 have e : Lib.join (p.map writtenS) [32] = printS p := by unfold printS; rw [if_pos h]
 rw [e, parse_print h]
theorem fold_progs : ∀ (ps : List (List (Int × Int))) (g : GameD) (ks : List KindD) (k : KindD), g.kinds = ks ++ [k] → (∀ p ∈ ps, validP p 8 6 4 = true) → (ps.map progLn).foldl lineG g = { g with kinds := ks ++ [⟨k.name, k.progs ++ ps, k.keep⟩] }
 | [], g, ks, k, e, _ => by
   rw [List.append_nil]
   show g = _
   cases g
   simp only at e;rw [e]
 | p :: ps, g, ks, k, e, h => by
   rw [List.map_cons, List.foldl_cons, prog_step g (h p (by simp))]
   rw [fold_progs ps _ ks ⟨k.name, k.progs ++ [p], k.keep⟩ (by show addP g.kinds p = _; rw [e, addP_snoc]) (fun x hx => h x (by simp [hx]))]
   simp
def kindLs (k : KindD) : List (List UInt8) := Lib.join (wKind :: (if k.keep = true then [k.name, wKeep] else [k.name])) [32] :: k.progs.map progLn
theorem fold_kind (g : GameD) (k : KindD) (hn : nameB k.name = true) (hp : ∀ p ∈ k.progs, validP p 8 6 4 = true) : (kindLs k).foldl lineG g = { g with kinds := g.kinds ++ [k] } := by
 have hw := word_name hn
 have e : lineG g (Lib.join (wKind :: (if k.keep = true then [k.name, wKeep] else [k.name])) [32]) = { g with kinds := g.kinds ++ [⟨k.name, [], k.keep⟩] } := by
   cases hk : k.keep with
   | true =>
     rw [if_pos rfl, line_step g 3 wKind _ ⟨by decide, by decide⟩ (fun z hz => by
       simp only [List.mem_cons, List.not_mem_nil, or_false] at hz
       rcases hz with rfl | rfl
       · exact hw
       · exact ⟨by decide, by decide⟩) (by simp) keys_no.2.2.2.1]
     rfl
   | false =>
     rw [if_neg (by simp), line_step g 3 wKind _ ⟨by decide, by decide⟩ (fun z hz => by
       simp only [List.mem_cons, List.not_mem_nil, or_false] at hz;subst hz
       exact hw) (by simp) keys_no.2.2.2.1]
     rfl
 unfold kindLs
 rw [List.foldl_cons, e, fold_progs k.progs _ g.kinds ⟨k.name, [], k.keep⟩ rfl hp]
 simp
theorem fold_kinds : ∀ (ks : List KindD) (g : GameD), (∀ k ∈ ks, nameB k.name = true ∧ ∀ p ∈ k.progs, validP p 8 6 4 = true) → ((ks.map kindLs).flatten).foldl lineG g = { g with kinds := g.kinds ++ ks }
 | [], g, _ => by simp
 | k :: ks, g, h => by
   have hk := h k (by simp);rw [List.map_cons, List.flatten_cons, List.foldl_append, fold_kind g k hk.1 hk.2, fold_kinds ks _ (fun x hx => h x (by simp [hx]))]
   simp
end Go.Proofs.YtbmcngoeinginaaGreatDoor
