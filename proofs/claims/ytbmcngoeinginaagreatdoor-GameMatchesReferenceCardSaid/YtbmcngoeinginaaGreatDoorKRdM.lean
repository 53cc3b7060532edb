/-
 What the reference reads from a text, as data; a valid game is read from its text by it, too.
-/
import Derived.Test.YtbmcngoeinginaaGreatDoorCBkD
namespace Go.Proofs.YtbmcngoeinginaaGreatDoor
open Go Go.RowKit Go.Lib
def valD (s : List UInt8) : Nat := s.foldl (fun n c => 10 * n + (c.toNat - 48)) 0
def digD (c : UInt8) : Bool := decide (48 ≤ c.toNat) && decide (c.toNat ≤ 57)
def numR (s : List UInt8) : Int := if s = [45, 49] then -1 else if (s.all digD && decide (s.length ≤ 4)) = true then (if itoa (valD s : Int) = s then (valD s : Int) else -2) else -2
def lastW (ws : List (List UInt8)) : List UInt8 := ws.getLast?.getD []
def secW (ws : List (List UInt8)) : List UInt8 := ws[1]?.getD []
def growN (g : GameD) (i : Nat) (s : List UInt8) (ws : List (List UInt8)) : GameD :=
 match i with
 | 0 => { g with b := { g.b with cells := numR (secW ws) } }
 | 1 => { g with b := { g.b with next := g.b.next ++ [ws.tail.map numR] } }
 | 2 => { g with b := { g.b with turn := ws.tail.map numR } }
 | 3 => { g with kinds := g.kinds ++ [⟨secW ws, [], decide (2 < ws.length)⟩] }
 | 4 => if (parseS (s.drop 5)).2 = 0 then { g with kinds := addP g.kinds (parseS (s.drop 5)).1 } else g
 | 5 => { g with rights := numR (lastW ws) }
 | 6 => { g with must := true }
 | 7 => { g with clauses := g.clauses ++ [⟨1, findD g.kinds (secW ws), 0, resN (lastW ws)⟩] }
 | 8 => { g with clauses := g.clauses ++ [⟨2, findD g.kinds (secW ws), if 2 < ws.length then numR (ws[2]?.getD []) else -1, resN (lastW ws)⟩] }
 | 9 => { g with clauses := g.clauses ++ [⟨3, 0, numR (secW ws), resN (lastW ws)⟩] }
 | 10 => { g with blocked := resN (lastW ws) }
 | 11 => { g with endless := resN (lastW ws) }
 | _ => g
def growS (g : GameD) (s : List UInt8) : GameD := match keyNo (headW (cutS s 32)) with | some i => growN g i s (cutS s 32) | none => g
def readR (s : List UInt8) : GameD := (cutS s 10).foldl growS zeroG
theorem numR_all : ((List.range 66).all fun k => decide (numR (itoa ((k : Int) - 1)) = (k : Int) - 1)) = true := by decide +kernel
theorem numR_back {n : Int} (h : -1 ≤ n ∧ n ≤ 64) : numR (itoa n) = n := by
 have h1 := List.all_eq_true.1 numR_all (n + 1).toNat (List.mem_range.2 (by omega))
 rw [decide_eq_true_eq] at h1
 have e : (((n + 1).toNat : Nat) : Int) - 1 = n := by omega
 rw [e] at h1
 exact h1
theorem numsR_back : ∀ l : List Int, (∀ x ∈ l, -1 ≤ x ∧ x ≤ 64) → (l.map itoa).map numR = l
 | [], _ => rfl
 | x :: l, h => by
   rw [List.map_cons, List.map_cons, numR_back (h x (by simp)), numsR_back l (fun y hy => h y (by simp [hy]))]
theorem fold_spaced : ∀ (xs : List (List UInt8)) (a : List (List UInt8)) (b : List UInt8), (∀ y ∈ xs, (32 : UInt8) ∉ y) → (spaced xs).foldl (cstep 32) (a, b) = ((a ++ b :: xs).dropLast, ((b :: xs).getLast?).getD [])
 | [], a, b, _ => by simp [spaced]
 | x :: xs, a, b, h => by
   have e : spaced (x :: xs) = 32 :: (x ++ spaced xs) := by simp [spaced]
   rw [e, List.foldl_cons, show cstep 32 (a, b) 32 = (a ++ [b], []) from if_pos rfl, List.foldl_append, fold_free 32 x _ _ (h x (by simp)), List.nil_append, fold_spaced xs _ _ (fun y hy => h y (by simp [hy]))]
   congr 1
   simp
theorem cut_words {x : List UInt8} {xs : List (List UInt8)} (hx : (32 : UInt8) ∉ x) (h : ∀ y ∈ xs, (32 : UInt8) ∉ y) : cutS (Lib.join (x :: xs) [32]) 32 = x :: xs := by
 unfold cutS
 rw [cutTo_fold _ _ _ (Nat.le_refl _), List.take_length, join_spaced, List.foldl_append, fold_free 32 x [] [] hx, List.nil_append, fold_spaced xs [] x h, List.nil_append]
 have hne : x :: xs ≠ [] := by simp
 rw [List.getLast?_eq_some_getLast hne, Option.getD_some]
 exact List.dropLast_concat_getLast hne
theorem word_free {x : List UInt8} (h : WordB x) : (32 : UInt8) ∉ x := fun hm => (h.2 32 hm).2 rfl
theorem grow_step (g : GameD) (i : Nat) (x : List UInt8) (xs : List (List UInt8)) (hx : WordB x) (h : ∀ y ∈ xs, WordB y) (hk : keyNo x = some i) : growS g (Lib.join (x :: xs) [32]) = growN g i (Lib.join (x :: xs) [32]) (x :: xs) := by
 unfold growS
 rw [cut_words (word_free hx) (fun y hy => word_free (h y hy))]
 show (match keyNo x with | some i => growN g i (Lib.join (x :: xs) [32]) (x :: xs) | none => g) = _
 rw [hk]
theorem grow_nil (g : GameD) : growS g [] = g := by
 have e : cutS [] 32 = [[]] := rfl
 have hk : keyNo (headW [[]]) = none := by decide
 unfold growS
 rw [e, hk]
theorem foldR_dirs : ∀ (rows : List (List Int)) (g : GameD), (∀ r ∈ rows, r.length ≤ 64 ∧ ∀ x ∈ r, -1 ≤ x ∧ x ≤ 64) → (rows.map dirL).foldl growS g = { g with b := { g.b with next := g.b.next ++ rows } }
 | [], g, _ => by simp
 | r :: rows, g, h => by
   have hr := h r (by simp)
   have e : growS g (dirL r) = { g with b := { g.b with next := g.b.next ++ [r] } } := by
     unfold dirL;rw [grow_step g 1 wDir _ ⟨by decide, by decide⟩ (itoa_words r) keys_no.2.1]
     show { g with b := { g.b with next := g.b.next ++ [(r.map itoa).map numR] } } = _
     rw [numsR_back r hr.2]
   rw [List.map_cons, List.foldl_cons, e, foldR_dirs rows _ (fun x hx => h x (by simp [hx]))]
   simp
theorem progR_step (g : GameD) {p : List (Int × Int)} (h : validP p 8 6 4 = true) : growS g (progLn p) = { g with kinds := addP g.kinds p } := by
 have hl := valid_len h
 have e : Lib.join (p.map writtenS) [32] = printS p := by unfold printS; rw [if_pos h]
 have hd : (progLn p).drop 5 = printS p := by
   rw [← e];unfold progLn
   cases hm : p.map writtenS with
   | nil =>
     have := congrArg List.length hm;simp only [List.length_map, List.length_nil] at this
     omega
   | cons y ys =>
     rw [join_spaced, join_spaced]
     simp [spaced, wProg]
 have hs : growS g (progLn p) = growN g 4 (progLn p) (wProg :: p.map writtenS) := grow_step g 4 wProg _ ⟨by decide, by decide⟩ (word_step h) keys_no.2.2.2.2.1
 rw [hs]
 show (if (parseS ((progLn p).drop 5)).2 = 0 then { g with kinds := addP g.kinds (parseS ((progLn p).drop 5)).1 } else g) = _
 rw [hd, parse_print h, if_pos rfl]
theorem foldR_progs : ∀ (ps : List (List (Int × Int))) (g : GameD) (ks : List KindD) (k : KindD), g.kinds = ks ++ [k] → (∀ p ∈ ps, validP p 8 6 4 = true) → (ps.map progLn).foldl growS g = { g with kinds := ks ++ [⟨k.name, k.progs ++ ps, k.keep⟩] }
 | [], g, ks, k, e, _ => by
   rw [List.append_nil]
   show g = _
   cases g
   simp only at e;rw [e]
 | p :: ps, g, ks, k, e, h => by
   rw [List.map_cons, List.foldl_cons, progR_step g (h p (by simp))]
   rw [foldR_progs ps _ ks ⟨k.name, k.progs ++ [p], k.keep⟩ (by show addP g.kinds p = _; rw [e, addP_snoc]) (fun x hx => h x (by simp [hx]))]
   simp
theorem foldR_kind (g : GameD) (k : KindD) (hn : nameB k.name = true) (hp : ∀ p ∈ k.progs, validP p 8 6 4 = true) : (kindLs k).foldl growS g = { g with kinds := g.kinds ++ [k] } := by
 have hw := word_name hn
 have e : growS g (Lib.join (wKind :: (if k.keep = true then [k.name, wKeep] else [k.name])) [32]) = { g with kinds := g.kinds ++ [⟨k.name, [], k.keep⟩] } := by
   cases hk : k.keep with
   | true =>
     rw [if_pos rfl, grow_step g 3 wKind _ ⟨by decide, by decide⟩ (fun z hz => by
       simp only [List.mem_cons, List.not_mem_nil, or_false] at hz
       rcases hz with rfl | rfl
       · exact hw
       · exact ⟨by decide, by decide⟩) keys_no.2.2.2.1]
     rfl
   | false =>
     rw [if_neg (by simp), grow_step g 3 wKind _ ⟨by decide, by decide⟩ (fun z hz => by
       simp only [List.mem_cons, List.not_mem_nil, or_false] at hz;subst hz;exact hw) keys_no.2.2.2.1]
     rfl
 unfold kindLs
 rw [List.foldl_cons, e, foldR_progs k.progs _ g.kinds ⟨k.name, [], k.keep⟩ rfl hp]
 simp
theorem foldR_kinds : ∀ (ks : List KindD) (g : GameD), (∀ k ∈ ks, nameB k.name = true ∧ ∀ p ∈ k.progs, validP p 8 6 4 = true) → ((ks.map kindLs).flatten).foldl growS g = { g with kinds := g.kinds ++ ks }
 | [], g, _ => by simp
 | k :: ks, g, h => by
   have hk := h k (by simp);rw [List.map_cons, List.flatten_cons, List.foldl_append, foldR_kind g k hk.1 hk.2, foldR_kinds ks _ (fun x hx => h x (by simp [hx]))]
   simp
theorem clauseR_step {g : GameD} (h : validG g = true) {c : ClauseD} (hc : c ∈ g.clauses) (a : GameD) (hk : a.kinds = g.kinds) : growS a (clauseLn g c) = { a with clauses := a.clauses ++ [c] } := by
 have B := validG_bounds h
 have hcb := B.clause c hc
 unfold clauseB rightB at hcb
 rw [Bool.and_eq_true] at hcb
 have hr := word_res (resB_in hcb.1)
 have ho := res_back (resB_in hcb.1)
 have h2 := hcb.2
 obtain ⟨cond, kind, n, out⟩ := c
 dsimp only at h2 hr ho ⊢
 unfold clauseLn clauseL
 dsimp only
 split
 · rename_i e
   rw [if_pos e] at h2;simp only [Bool.and_eq_true, decide_eq_true_eq] at h2;obtain ⟨hf, hw⟩ := find_of h h2.1.1 h2.1.2
   rw [grow_step a 7 wLacks _ ⟨by decide, by decide⟩ (fun z hz => by
     simp only [List.mem_cons, List.not_mem_nil, or_false] at hz
     rcases hz with rfl | rfl
     · exact hw
     · exact hr) keys_no.2.2.2.2.2.2.2.1]
   show { a with clauses := a.clauses ++ [(⟨1, findD a.kinds (kindNm g kind), 0, resN (resW out.toNat)⟩ : ClauseD)] } = _
   rw [hk, hf, ho, h2.2, e]
 · rename_i e
   rw [if_neg e] at h2
   split
   · rename_i e
     rw [if_pos e] at h2;simp only [Bool.and_eq_true, decide_eq_true_eq] at h2;obtain ⟨hf, hw⟩ := find_of h h2.1.1 h2.1.2
     rw [grow_step a 8 wHolds _ ⟨by decide, by decide⟩ (fun z hz => by
       simp only [List.mem_cons, List.not_mem_nil, or_false] at hz
       rcases hz with rfl | rfl | rfl
       · exact hw
       · exact word_itoa _
       · exact hr) keys_no.2.2.2.2.2.2.2.2.1]
     show { a with clauses := a.clauses ++ [(⟨2, findD a.kinds (kindNm g kind), numR (itoa n), resN (resW out.toNat)⟩ : ClauseD)] } = _
     rw [hk, hf, ho, numR_back (by have := B.cells; omega), e]
   · rename_i e2
     rw [if_neg e2] at h2
     split at h2
     · rename_i e3
       simp only [Bool.and_eq_true, decide_eq_true_eq] at h2
       rw [grow_step a 9 wFew _ ⟨by decide, by decide⟩ (fun z hz => by
         simp only [List.mem_cons, List.not_mem_nil, or_false] at hz
         rcases hz with rfl | rfl
         · exact word_itoa _
         · exact hr) keys_no.2.2.2.2.2.2.2.2.2.1]
       show { a with clauses := a.clauses ++ [(⟨3, 0, numR (itoa n), resN (resW out.toNat)⟩ : ClauseD)] } = _
       rw [ho, numR_back (by omega), h2.1, e3]
     · cases h2
theorem foldR_clauses {g : GameD} (h : validG g = true) : ∀ (cs : List ClauseD) (a : GameD), (∀ c ∈ cs, c ∈ g.clauses) → a.kinds = g.kinds → (cs.map (clauseLn g)).foldl growS a = { a with clauses := a.clauses ++ cs }
 | [], a, _, _ => by simp
 | c :: cs, a, hc, hk => by
   rw [List.map_cons, List.foldl_cons, clauseR_step h (hc c (by simp)) a hk, foldR_clauses h cs { a with clauses := a.clauses ++ [c] } (fun x hx => hc x (by simp [hx])) hk]
   simp
theorem foldR_lines {g : GameD} (h : validG g = true) : (linesG g).foldl growS zeroG = g := by
 have B := validG_bounds h
 have hK := kind_of h
 have hC := fun cs a => foldR_clauses h cs a
 unfold linesG
 rw [List.foldl_cons, grow_step zeroG 0 wBoard _ ⟨by decide, by decide⟩ (fun z hz => by
   simp only [List.mem_cons, List.not_mem_nil, or_false] at hz
   rcases hz with rfl | rfl <;> exact word_itoa _) keys_no.1]
 rw [List.foldl_append, foldR_dirs _ _ B.row]
 rw [List.foldl_cons, grow_step _ 2 wTurn _ ⟨by decide, by decide⟩ (itoa_words _) keys_no.2.2.1]
 rw [List.foldl_append, foldR_kinds _ _ (fun k hk => ⟨(hK k hk).1, (hK k hk).2.2⟩)]
 rw [List.foldl_cons, grow_step _ 5 wRights _ ⟨by decide, by decide⟩ (fun z hz => by
   simp only [List.mem_cons, List.not_mem_nil, or_false] at hz; subst hz; exact word_itoa _) keys_no.2.2.2.2.2.1]
 have hm : ∀ a : GameD, a.must = false → (mustLn g).foldl growS a = { a with must := g.must } := fun a ha => by
   unfold mustLn
   cases hg : g.must with
   | true =>
     rw [if_pos rfl, List.foldl_cons, List.foldl_nil, grow_step a 6 wMust [] ⟨by decide, by decide⟩ (by simp) keys_no.2.2.2.2.2.2.1]
     rfl
   | false =>
     rw [if_neg (by simp)]
     cases a
     simp only at ha;subst ha
     rfl
 rw [List.foldl_append, hm _ rfl, List.foldl_append, hC g.clauses _ (fun c hc => hc) (by rfl)]
 rw [List.foldl_cons, grow_step _ 10 wBlocked _ ⟨by decide, by decide⟩ (fun z hz => by
   simp only [List.mem_cons, List.not_mem_nil, or_false] at hz; subst hz; exact word_res B.blocked) keys_no.2.2.2.2.2.2.2.2.2.2.1]
 rw [List.foldl_cons, List.foldl_nil, grow_step _ 11 wEndless _ ⟨by decide, by decide⟩ (fun z hz => by
   simp only [List.mem_cons, List.not_mem_nil, or_false] at hz; subst hz; exact word_res B.endless) keys_no.2.2.2.2.2.2.2.2.2.2.2]
 have n1 := numR_back (n := g.b.cells) (by have := B.cells; omega)
 have n2 := numsR_back g.b.turn (fun x hx => by have := B.tin x hx; omega)
 have n3 := numR_back (n := g.rights) (by have := B.rights; omega)
 have n4 := res_back B.blocked
 have n5 := res_back B.endless
 simp only [growN, secW, lastW, List.tail_cons, List.getElem?_cons_succ, List.getElem?_cons_zero, Option.getD_some, List.getLast?_cons_cons, List.getLast?_singleton, n1, n2, n3, n4, n5, zeroG, List.nil_append]
theorem readR_written {g : GameD} (h : validG g = true) : readR (writtenG g) = g := by
 unfold readR
 rw [written_flat h, cutS_lines (lines_free h), List.foldl_append, foldR_lines h, List.foldl_cons, List.foldl_nil, grow_nil]
theorem ok_same (s : List UInt8) : (validG (readR s) && decide (writtenG (readR s) = s)) = okG s ∧ ((validG (readR s) && decide (writtenG (readR s) = s)) = true → readR s = readG s) := by
 have key : ∀ g, validG g = true → writtenG g = s → readR s = g ∧ readG s = g := fun g hv e => by rw [← e]; exact ⟨readR_written hv, gread_written hv⟩
 unfold okG
 constructor
 · rw [Bool.eq_iff_iff]
   simp only [Bool.and_eq_true, decide_eq_true_eq]
   constructor
   · rintro ⟨h1, h2⟩
     obtain ⟨_, e⟩ := key _ h1 h2;rw [e];exact ⟨h1, h2⟩
   · rintro ⟨h1, h2⟩
     obtain ⟨e, _⟩ := key _ h1 h2;rw [e];exact ⟨h1, h2⟩
 · intro h
   simp only [Bool.and_eq_true, decide_eq_true_eq] at h;exact (key _ h.1 h.2).2.symm
end Go.Proofs.YtbmcngoeinginaaGreatDoor
