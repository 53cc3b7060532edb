/-
 Steps of programs as cells, slices of them that are the call's own, appends (as in stage 2, for seats without those texts).
 Of the reference: at, Lib.
 Fit of the reference for programs.
 The programs of the reference's games.
-/
import Derived.Test.YtbmcngoeinginaaGreatDoorCBas
import Derived.Test.YtbmcngoeinginaaGreatDoorCPro
import Derived.OwnWalk
import Derived.Deep.DeepCutAuto
namespace Go.Proofs.YtbmcngoeinginaaGreatDoor
open Go Go.RowKit
def StepsTy (t : TypeId) : Prop := Tryz.prog.underlying t = some (.slice 91)
theorem ty_prog : StepsTy 68 := Tryz.underlying68
theorem ownP_empty (W : World) (b : Nat) (hb : b = W.heap.size) : OwnStp W.heap.size (W.alloc (.cells #[] 91)) (.slice (some ⟨b, 0, none⟩) 0 0) [] := by
 subst hb
 exact ⟨rfl, .inr ⟨W.heap.size, 0, #[], rfl, Nat.le_refl _, World.alloc_heap_new _ _, Nat.le_refl _, by unfold maxLen; omega, rfl, rfl⟩⟩
theorem ownP_lit (W : World) (b : Nat) (x y : Int) (hb : b = W.heap.size) : OwnStp W.heap.size (W.alloc (.cells #[.int .i64 x, .int .i64 y] 91)) (.slice (some ⟨b, 0, none⟩) 1 1) [(x, y)] := by
 subst hb
 exact ⟨rfl, .inr ⟨W.heap.size, 1, #[.int .i64 x, .int .i64 y], rfl, Nat.le_refl _, World.alloc_heap_new _ _, Nat.le_refl _, by unfold maxLen; omega, rfl, rfl⟩⟩
theorem prg_lit (W : World) (b : Nat) (x y : Int) (hb : b = W.heap.size) : Prg (W.alloc (.cells #[.int .i64 x, .int .i64 y] 91)).heap.size (W.alloc (.cells #[.int .i64 x, .int .i64 y] 91)) (some ⟨b, 0, none⟩) [(x, y)] := by
 obtain ⟨a, c, e, h⟩ := (ownP_lit W b x y hb).prg
 cases e
 exact h
theorem run_pushP {w : World} (t ty : TypeId) (ht : StepsTy t) (n N : Nat) (v : Value) (l : List (Int × Int)) (h : OwnStp n w v l) (hl : l.length < 2000) (hn : n ≤ w.heap.size)
   (b off c : Nat) (l2 : List (Int × Int)) (hl2 : l2.length < 2000) (hx : Prg N w (some ⟨b, off, none⟩) l2) :
   ∃ v' w', (Builtin.append_ #[t, t] ty #[v, .slice (some ⟨b, off, none⟩) l2.length c]).run Tryz.prog w = .ok v' w' ∧ OwnStp n w' v' (l ++ l2) ∧ w.grownBy w' v.ownBlock ∧ (v'.ownBlock = v.ownBlock ∨ v'.ownBlock = some w.heap.size) := by
 obtain ⟨i0, hi, hz0, hz1, hz2⟩ := info_parts info_step
 obtain ⟨v', w', hr, h2, h3, _, h5⟩ := run_append_own_at (P := Tryz.prog) w n t ty 91 i0 (.agg #[.int .i64 0, .int .i64 0]) 2 16 ht hi hz0 hz1 hz2 rfl (by decide) v l.length (flatP l) h ⟨b, off, none⟩ l2.length c (flatP l2) (flatP_len l2)
   (by intro j u hj
       have hjl : j < l2.length * 2 := by have := (List.getElem?_eq_some_iff.1 hj).1; rwa [flatP_len] at this
       have e : (⟨b, off, none⟩ : Addr).add j = ⟨b, off + j, none⟩ := by by_cases h : j = 0 <;> simp [Addr.add, h]
       have hj2 : j / 2 < l2.length := by omega
       obtain ⟨b', off', e', _, c1, c2⟩ := hx.at_ hj2
       cases e'
       obtain ⟨f1, f2⟩ := flatP_get l2 (j / 2) hj2;rw [e]
       have hm : j = j / 2 * 2 ∨ j = j / 2 * 2 + 1 := by omega
       rcases hm with hm | hm
       · rw [hm] at hj ⊢
         rw [← hj, f1]; exact c1
       · rw [hm] at hj ⊢
         rw [← hj, f2]; exact c2) (flatP_one l2) (by unfold maxLen; omega) (by omega) hn
 refine ⟨v', w', hr, ?_, h3, h5⟩
 unfold OwnStp
 rw [List.length_append, flatP_app]
 exact h2
theorem step_pushP {w : World} {ops : Array Oper} {o : Oper} {a : Act} {K : Act → World → Prop} {Q : Exit → Act → World → Prop} {E : Prop} (hgd : o.guard = none) (t : TypeId) (ht : StepsTy t) (s y : Operand)
   (ho : o.op = .call { callee := .builtin .append, args := #[s, y], argTypes := #[t, t] }) (n N : Nat) (v : Value) (l : List (Int × Int)) (hs : a.eval s = v) (h : OwnStp n w v l) (hl : l.length < 2000) (hn : n ≤ w.heap.size)
   (b off c k : Nat) (l2 : List (Int × Int)) (hy : a.eval y = .slice (some ⟨b, off, none⟩) k c) (hk : k = l2.length) (hl2 : l2.length < 2000) (hx : Prg N w (some ⟨b, off, none⟩) l2)
   (hK : ∀ v' w', OwnStp n w' v' (l ++ l2) → w.grownBy w' v.ownBlock → K (a.put o.dst v') w') :
   if Region.wanted o (yielded ops a.tmps) = true then Oper.wp Tryz.prog o a w K Q else E := by
 have hw : Region.wanted o (yielded ops a.tmps) = true := by simp [Region.wanted, hgd]
 rw [if_pos hw]
 subst hk
 obtain ⟨v', w', hr, h2, h3, h5⟩ := run_pushP t o.type ht n N v l h hl hn b off c l2 hl2 hx
 unfold Oper.wp
 simp [execOp, ho, resolve, invoke, builtin, hs, hy, hr, Result.andThen]
 exact hK v' w' h2 h3
theorem wpList_pushP {w : World} {ops : Array Oper} {rest : List Oper} {o : Oper} {a : Act} {Q : Exit → Act → World → Prop} (hgd : o.guard = none) (t : TypeId) (ht : StepsTy t) (s y : Operand)
   (ho : o.op = .call { callee := .builtin .append, args := #[s, y], argTypes := #[t, t] }) (n N : Nat) (v : Value) (l : List (Int × Int)) (hs : a.eval s = v) (h : OwnStp n w v l) (hl : l.length < 2000) (hn : n ≤ w.heap.size)
   (b off c k : Nat) (l2 : List (Int × Int)) (hy : a.eval y = .slice (some ⟨b, off, none⟩) k c) (hk : k = l2.length) (hl2 : l2.length < 2000) (hx : Prg N w (some ⟨b, off, none⟩) l2)
   (hK : ∀ v' w', OwnStp n w' v' (l ++ l2) → w.grownBy w' v.ownBlock → wpList Tryz.prog ops Q rest (a.put o.dst v') w') :
   wpList Tryz.prog ops Q (o :: rest) a w :=
 wpList_plain hgd fun K hK' => by
   have h2 := step_pushP (w := w) (ops := ops) (Q := Q) (K := K) (E := True) hgd t ht s y ho n N v l hs h hl hn b off c k l2 hy hk hl2 hx (fun v' w' h1 h2 => hK' _ _ (hK v' w' h1 h2));rw [if_pos (by simp [Region.wanted, hgd])] at h2;exact h2
theorem OwnStp.row {n : Nat} {W : World} {v : Value} {l : List (Int × Int)} (h : OwnStp n W v l) {k : Nat} (hk : some k = v.ownBlock) : n ≤ k ∧ k < W.heap.size := World.ownsRow.lt h k hk.symm
theorem pushP_below {h : Nat} {w4 W W6 : World} {v : Value} {l : List (Int × Int)} (hb : Below h w4 W) (hs : h ≤ W.heap.size) (ho : OwnStp h W v l) (hg : W.grownBy W6 v.ownBlock) : Below h w4 W6 :=
 hb.trans ((Alters.of_grown hg).below hs (fun _ hk => (ho.row hk).1))
theorem OwnStp.some_of {n : Nat} {W : World} {v : Value} {l : List (Int × Int)} (h : OwnStp n W v l) (h1 : 1 ≤ l.length) : ∃ g cap, v = .slice (some ⟨g, 0, none⟩) l.length cap ∧ n ≤ g ∧ g < W.heap.size := by
 rcases h.form with ⟨_, h0⟩ | h2
 · rw [h0] at h1; simp at h1
 · exact h2
theorem wpList_pushB {w : World} {ops : Array Oper} {rest : List Oper} {o : Oper} {a : Act} {Q : Exit → Act → World → Prop} (hgd : o.guard = none) (t : TypeId) (ht : StepsTy t) (s y : Operand)
   (ho : o.op = .call { callee := .builtin .append, args := #[s, y], argTypes := #[t, t] }) (w0 : World) (hb : Below w0.heap.size w0 w) (N : Nat) (v : Value) (l : List (Int × Int)) (hs : a.eval s = v) (h : OwnStp w0.heap.size w v l) (hl : l.length < 2000)
   (b off c k : Nat) (l2 : List (Int × Int)) (hy : a.eval y = .slice (some ⟨b, off, none⟩) k c) (hk : k = l2.length) (hl2 : l2.length < 2000) (hx : Prg N w (some ⟨b, off, none⟩) l2)
   (hK : ∀ v' w', OwnStp w0.heap.size w' v' (l ++ l2) → Below w0.heap.size w0 w' → w.grownBy w' v.ownBlock → wpList Tryz.prog ops Q rest (a.put o.dst v') w') :
   wpList Tryz.prog ops Q (o :: rest) a w :=
 wpList_pushP hgd t ht s y ho w0.heap.size N v l hs h hl hb.size b off c k l2 hy hk hl2 hx fun v' w' h1 h2 => hK v' w' h1 (pushP_below hb hb.size h h2) h2
theorem Prg.grown {N b off : Nat} {w w' : World} {l : List (Int × Int)} {r : Option Nat} (h : Prg N w (some ⟨b, off, none⟩) l) (hN : N ≤ w.heap.size) (hg : w.grownBy w' r) (hne : some b ≠ r) : Prg N w' (some ⟨b, off, none⟩) l := by
 rcases h with h | ⟨b', off', e, hn, hc⟩
 · exact .inl h
 · cases e
   have hk := hg.block b (Nat.lt_of_lt_of_le hn hN) hne;exact .inr ⟨b, off, rfl, hn, fun j hj => ⟨(World.cell?_of_block (a := ⟨b, off + j * 2, none⟩) hk).trans (hc j hj).1, (World.cell?_of_block (a := ⟨b, off + j * 2 + 1, none⟩) hk).trans (hc j hj).2⟩⟩
end Go.Proofs.YtbmcngoeinginaaGreatDoor
namespace Go.Proofs.YtbmcngoeinginaaGreatDoor
open Go Go.RowKit
def U8s (n : Nat) (W : World) (a : Option Addr) (l : List Nat) : Prop :=
 (∀ j : Nat, (l[j]? : Option Nat).getD 0 ≤ 255) ∧ (l = [] ∨ ∃ b off, a = some ⟨b, off, none⟩ ∧ b < n ∧ ∀ j, j < l.length → W.cell? ⟨b, off + j, none⟩ = some (.int .u8 ((l[j]?.getD 0 : Nat) : Int)))
theorem U8s.below {n : Nat} {A B : World} {a : Option Addr} {l : List Nat} (h : U8s n A a l) (hb : Below n A B) : U8s n B a l := by
 refine ⟨h.1, ?_⟩
 rcases h.2 with h | ⟨b, off, e, hn, hc⟩
 · exact .inl h
 · exact .inr ⟨b, off, e, hn, fun j hj => (hb.cell (p := ⟨b, off + j, none⟩) hn).trans (hc j hj)⟩
theorem U8s.up {N : Nat} {w w1 : World} {a : Option Addr} {l : List Nat} (h : U8s N w a l) (hN : N ≤ w.heap.size) (hb : Below w.heap.size w w1) : U8s N w1 a l := h.below (hb.mono hN)
theorem U8s.at_ {n : Nat} {W : World} {a : Option Addr} {l : List Nat} (h : U8s n W a l) {j : Nat} (hj : j < l.length) :
   ∃ b off, a = some ⟨b, off, none⟩ ∧ b < n ∧ W.cell? ⟨b, off + j, none⟩ = some (.int .u8 ((l[j]?.getD 0 : Nat) : Int)) := by
 rcases h.2 with rfl | ⟨b, off, e, hn, hc⟩
 · simp at hj
 · exact ⟨b, off, e, hn, hc j hj⟩
set_option maxRecDepth 100000 in
theorem at_any (l : List Nat) (a : Option Addr) (c N i : Nat) (w : World) (_ : i ≤ 100) (hI : U8s N w a l) :
   Calls Tryz.prog 87 #[.slice a l.length c, .int .i64 i] w fun e w' => e = .returned (.int .i64 ((l[i]?.getD 0 : Nat) : Int)) ∧ w = w' := by
 by_cases h : i < l.length
 · obtain ⟨b, off, hab, hbN, hc⟩ := hI.at_ h
   have hb := hI.1 i;subst hab;generalize l[i]?.getD 0 = x at *;clear hI;go_enter Tryz.func87, Tryz.ntmps87;go_wp2
   go_ret
   exact ⟨rfl, rfl⟩
 · have hx : l[i]?.getD 0 = 0 := by simp [show l.length ≤ i by omega]
   rw [hx];have HX := Lib.hid hx
   have t1 : decide (i < l.length) = false := by simpa using h
   clear hx hI h;go_enter Tryz.func87, Tryz.ntmps87;go_wp2
   go_ret
   exact ⟨rfl, rfl⟩
def libL (D E B K R : Int) : List (List (Int × Int)) :=
 [[(1, D), (3, 0)],
   [(1, D), (4, 0), (6, 0)],
   [(2, D)],
   [(2, D), (4, 0), (6, 0)],
   [(1, D), (4, 0), (6, 0), (1, D)],
   [(1, D), (1, E)],
   [(1, D), (7, D)],
   [(1, D), (3, 0), (8, K)],
   [(9, R), (1, D), (1, D), (10, R)],
   [(1, D), (5, 0), (1, D), (3, 0)],
   [(10, R), (1, D)],
   [(1, D), (4, 0), (6, 0), (1, B)],
   [(1, D), (4, 0), (6, 0), (1, E), (4, 0), (6, 0)],
   [(2, D), (5, 0), (1, D)],
   [(1, D), (4, 0), (6, 0), (8, K)],
   [(1, D), (7, D), (1, E)]]
def libS (l : List Nat) : List (Int × Int) := (libL ((l[1]?.getD 0 : Nat) % 8) ((l[2]?.getD 0 : Nat) % 8) (((l[1]?.getD 0 : Nat) + 4) % 8) ((l[3]?.getD 0 : Nat) % 6) ((l[4]?.getD 0 : Nat) % 4))[l[0]?.getD 0 % 16]?.getD []
structure Tw (W : World) (b : Nat) (D E B K R : Int) : Prop where
 size : b + 12 ≤ W.heap.size
 c0 : W.cell? ⟨b + 0, 0, none⟩ = some (.int .i64 1) ∧ W.cell? ⟨b + 0, 1, none⟩ = some (.int .i64 D)
 c1 : W.cell? ⟨b + 1, 0, none⟩ = some (.int .i64 1) ∧ W.cell? ⟨b + 1, 1, none⟩ = some (.int .i64 E)
 c2 : W.cell? ⟨b + 2, 0, none⟩ = some (.int .i64 1) ∧ W.cell? ⟨b + 2, 1, none⟩ = some (.int .i64 B)
 c3 : W.cell? ⟨b + 3, 0, none⟩ = some (.int .i64 2) ∧ W.cell? ⟨b + 3, 1, none⟩ = some (.int .i64 D)
 c4 : W.cell? ⟨b + 4, 0, none⟩ = some (.int .i64 7) ∧ W.cell? ⟨b + 4, 1, none⟩ = some (.int .i64 D)
 c5 : W.cell? ⟨b + 5, 0, none⟩ = some (.int .i64 3) ∧ W.cell? ⟨b + 5, 1, none⟩ = some (.int .i64 0)
 c6 : W.cell? ⟨b + 6, 0, none⟩ = some (.int .i64 4) ∧ W.cell? ⟨b + 6, 1, none⟩ = some (.int .i64 0)
 c7 : W.cell? ⟨b + 7, 0, none⟩ = some (.int .i64 5) ∧ W.cell? ⟨b + 7, 1, none⟩ = some (.int .i64 0)
 c8 : W.cell? ⟨b + 8, 0, none⟩ = some (.int .i64 6) ∧ W.cell? ⟨b + 8, 1, none⟩ = some (.int .i64 0)
 c9 : W.cell? ⟨b + 9, 0, none⟩ = some (.int .i64 8) ∧ W.cell? ⟨b + 9, 1, none⟩ = some (.int .i64 K)
 c10 : W.cell? ⟨b + 10, 0, none⟩ = some (.int .i64 9) ∧ W.cell? ⟨b + 10, 1, none⟩ = some (.int .i64 R)
 c11 : W.cell? ⟨b + 11, 0, none⟩ = some (.int .i64 10) ∧ W.cell? ⟨b + 11, 1, none⟩ = some (.int .i64 R)
theorem two_cells (W : World) (x y : Int) : (W.alloc (.cells #[.int .i64 x, .int .i64 y] 91)).cell? ⟨W.heap.size, 0, none⟩ = some (.int .i64 x) ∧ (W.alloc (.cells #[.int .i64 x, .int .i64 y] 91)).cell? ⟨W.heap.size, 1, none⟩ = some (.int .i64 y) :=
 ⟨cell_new_at _ _ _ _ _ _ rfl rfl, cell_new_at _ _ _ _ _ _ rfl rfl⟩
theorem two_keep {W : World} {b : Nat} {x y : Value} (h : W.cell? ⟨b, 0, none⟩ = some x ∧ W.cell? ⟨b, 1, none⟩ = some y) (o : Obj) : (W.alloc o).cell? ⟨b, 0, none⟩ = some x ∧ (W.alloc o).cell? ⟨b, 1, none⟩ = some y := ⟨cell_alloc_keep h.1 o, cell_alloc_keep h.2 o⟩
theorem two_of {W W2 : World} {o : Obj} (e : W2 = W.alloc o) {b : Nat} {x y : Value} (h : W.cell? ⟨b, 0, none⟩ = some x ∧ W.cell? ⟨b, 1, none⟩ = some y) : W2.cell? ⟨b, 0, none⟩ = some x ∧ W2.cell? ⟨b, 1, none⟩ = some y := by rw [e]; exact two_keep h o
theorem tw_made (w : World) (D E B K R : Int) : Tw ((((((((((((w.alloc (.cells #[.int .i64 1, .int .i64 D] 91)).alloc (.cells #[.int .i64 1, .int .i64 E] 91)).alloc (.cells #[.int .i64 1, .int .i64 B] 91)).alloc (.cells #[.int .i64 2, .int .i64 D] 91)).alloc (.cells #[.int .i64 7, .int .i64 D] 91)).alloc (.cells #[.int .i64 3, .int .i64 0] 91)).alloc (.cells #[.int .i64 4, .int .i64 0] 91)).alloc (.cells #[.int .i64 5, .int .i64 0] 91)).alloc (.cells #[.int .i64 6, .int .i64 0] 91)).alloc (.cells #[.int .i64 8, .int .i64 K] 91)).alloc (.cells #[.int .i64 9, .int .i64 R] 91)).alloc (.cells #[.int .i64 10, .int .i64 R] 91)) w.heap.size D E B K R := by
 have s0 : w.heap.size = w.heap.size + 0 := by rfl
 obtain ⟨w0, e0⟩ : ∃ w0, w0 = w.alloc (.cells #[.int .i64 1, .int .i64 D] 91) := ⟨_, rfl⟩
 have c0 := two_cells w 1 D
 rw [← e0, s0] at c0
 rw [← e0]
 have s1 : w0.heap.size = w.heap.size + 1 := by rw [e0, World.size_alloc, s0]
 obtain ⟨w1, e1⟩ : ∃ w1, w1 = w0.alloc (.cells #[.int .i64 1, .int .i64 E] 91) := ⟨_, rfl⟩
 have c1 := two_cells w0 1 E
 rw [← e1, s1] at c1
 replace c0 := two_of e1 c0
 rw [← e1]
 have s2 : w1.heap.size = w.heap.size + 2 := by rw [e1, World.size_alloc, s1]
 obtain ⟨w2, e2⟩ : ∃ w2, w2 = w1.alloc (.cells #[.int .i64 1, .int .i64 B] 91) := ⟨_, rfl⟩
 have c2 := two_cells w1 1 B
 rw [← e2, s2] at c2
 replace c0 := two_of e2 c0
 replace c1 := two_of e2 c1
 rw [← e2]
 have s3 : w2.heap.size = w.heap.size + 3 := by rw [e2, World.size_alloc, s2]
 obtain ⟨w3, e3⟩ : ∃ w3, w3 = w2.alloc (.cells #[.int .i64 2, .int .i64 D] 91) := ⟨_, rfl⟩
 have c3 := two_cells w2 2 D
 rw [← e3, s3] at c3
 replace c0 := two_of e3 c0
 replace c1 := two_of e3 c1
 replace c2 := two_of e3 c2
 rw [← e3]
 have s4 : w3.heap.size = w.heap.size + 4 := by rw [e3, World.size_alloc, s3]
 obtain ⟨w4, e4⟩ : ∃ w4, w4 = w3.alloc (.cells #[.int .i64 7, .int .i64 D] 91) := ⟨_, rfl⟩
 have c4 := two_cells w3 7 D
 rw [← e4, s4] at c4
 replace c0 := two_of e4 c0
 replace c1 := two_of e4 c1
 replace c2 := two_of e4 c2
 replace c3 := two_of e4 c3
 rw [← e4]
 have s5 : w4.heap.size = w.heap.size + 5 := by rw [e4, World.size_alloc, s4]
 obtain ⟨w5, e5⟩ : ∃ w5, w5 = w4.alloc (.cells #[.int .i64 3, .int .i64 0] 91) := ⟨_, rfl⟩
 have c5 := two_cells w4 3 0
 rw [← e5, s5] at c5
 replace c0 := two_of e5 c0
 replace c1 := two_of e5 c1
 replace c2 := two_of e5 c2
 replace c3 := two_of e5 c3
 replace c4 := two_of e5 c4
 rw [← e5]
 have s6 : w5.heap.size = w.heap.size + 6 := by rw [e5, World.size_alloc, s5]
 obtain ⟨w6, e6⟩ : ∃ w6, w6 = w5.alloc (.cells #[.int .i64 4, .int .i64 0] 91) := ⟨_, rfl⟩
 have c6 := two_cells w5 4 0
 rw [← e6, s6] at c6
 replace c0 := two_of e6 c0
 replace c1 := two_of e6 c1
 replace c2 := two_of e6 c2
 replace c3 := two_of e6 c3
 replace c4 := two_of e6 c4
 replace c5 := two_of e6 c5
 rw [← e6]
 have s7 : w6.heap.size = w.heap.size + 7 := by rw [e6, World.size_alloc, s6]
 obtain ⟨w7, e7⟩ : ∃ w7, w7 = w6.alloc (.cells #[.int .i64 5, .int .i64 0] 91) := ⟨_, rfl⟩
 have c7 := two_cells w6 5 0
 rw [← e7, s7] at c7
 replace c0 := two_of e7 c0
 replace c1 := two_of e7 c1
 replace c2 := two_of e7 c2
 replace c3 := two_of e7 c3
 replace c4 := two_of e7 c4
 replace c5 := two_of e7 c5
 replace c6 := two_of e7 c6
 rw [← e7]
 have s8 : w7.heap.size = w.heap.size + 8 := by rw [e7, World.size_alloc, s7]
 obtain ⟨w8, e8⟩ : ∃ w8, w8 = w7.alloc (.cells #[.int .i64 6, .int .i64 0] 91) := ⟨_, rfl⟩
 have c8 := two_cells w7 6 0
 rw [← e8, s8] at c8
 replace c0 := two_of e8 c0
 replace c1 := two_of e8 c1
 replace c2 := two_of e8 c2
 replace c3 := two_of e8 c3
 replace c4 := two_of e8 c4
 replace c5 := two_of e8 c5
 replace c6 := two_of e8 c6
 replace c7 := two_of e8 c7
 rw [← e8]
 have s9 : w8.heap.size = w.heap.size + 9 := by rw [e8, World.size_alloc, s8]
 obtain ⟨w9, e9⟩ : ∃ w9, w9 = w8.alloc (.cells #[.int .i64 8, .int .i64 K] 91) := ⟨_, rfl⟩
 have c9 := two_cells w8 8 K
 rw [← e9, s9] at c9
 replace c0 := two_of e9 c0
 replace c1 := two_of e9 c1
 replace c2 := two_of e9 c2
 replace c3 := two_of e9 c3
 replace c4 := two_of e9 c4
 replace c5 := two_of e9 c5
 replace c6 := two_of e9 c6
 replace c7 := two_of e9 c7
 replace c8 := two_of e9 c8
 rw [← e9]
 have s10 : w9.heap.size = w.heap.size + 10 := by rw [e9, World.size_alloc, s9]
 obtain ⟨w10, e10⟩ : ∃ w10, w10 = w9.alloc (.cells #[.int .i64 9, .int .i64 R] 91) := ⟨_, rfl⟩
 have c10 := two_cells w9 9 R
 rw [← e10, s10] at c10
 replace c0 := two_of e10 c0
 replace c1 := two_of e10 c1
 replace c2 := two_of e10 c2
 replace c3 := two_of e10 c3
 replace c4 := two_of e10 c4
 replace c5 := two_of e10 c5
 replace c6 := two_of e10 c6
 replace c7 := two_of e10 c7
 replace c8 := two_of e10 c8
 replace c9 := two_of e10 c9
 rw [← e10]
 have s11 : w10.heap.size = w.heap.size + 11 := by rw [e10, World.size_alloc, s10]
 obtain ⟨w11, e11⟩ : ∃ w11, w11 = w10.alloc (.cells #[.int .i64 10, .int .i64 R] 91) := ⟨_, rfl⟩
 have c11 := two_cells w10 10 R
 rw [← e11, s11] at c11
 replace c0 := two_of e11 c0
 replace c1 := two_of e11 c1
 replace c2 := two_of e11 c2
 replace c3 := two_of e11 c3
 replace c4 := two_of e11 c4
 replace c5 := two_of e11 c5
 replace c6 := two_of e11 c6
 replace c7 := two_of e11 c7
 replace c8 := two_of e11 c8
 replace c9 := two_of e11 c9
 replace c10 := two_of e11 c10
 rw [← e11]
 exact ⟨by rw [e11, World.size_alloc, s11]; omega, c0, c1, c2, c3, c4, c5, c6, c7, c8, c9, c10, c11⟩
theorem tw_below (w : World) (D E B K R : Int) : Below w.heap.size w ((((((((((((w.alloc (.cells #[.int .i64 1, .int .i64 D] 91)).alloc (.cells #[.int .i64 1, .int .i64 E] 91)).alloc (.cells #[.int .i64 1, .int .i64 B] 91)).alloc (.cells #[.int .i64 2, .int .i64 D] 91)).alloc (.cells #[.int .i64 7, .int .i64 D] 91)).alloc (.cells #[.int .i64 3, .int .i64 0] 91)).alloc (.cells #[.int .i64 4, .int .i64 0] 91)).alloc (.cells #[.int .i64 5, .int .i64 0] 91)).alloc (.cells #[.int .i64 6, .int .i64 0] 91)).alloc (.cells #[.int .i64 8, .int .i64 K] 91)).alloc (.cells #[.int .i64 9, .int .i64 R] 91)).alloc (.cells #[.int .i64 10, .int .i64 R] 91)) := below_alloc (below_alloc (below_alloc (below_alloc (below_alloc (below_alloc (below_alloc (below_alloc (below_alloc (below_alloc (below_alloc (below_alloc (Below.refl _ _) _) _) _) _) _) _) _) _) _) _) _) _
theorem blk_keep {W : World} {g : Nat} {x : Obj} (h : W.heap[g]? = some x) (o : Obj) : (W.alloc o).heap[g]? = some x := (Below.heap_alloc _ _ _ (Array.getElem?_eq_some_iff.1 h).1).trans h
theorem blk_of {W W2 : World} {o : Obj} (e : W2 = W.alloc o) {g : Nat} {x : Obj} (h : W.heap[g]? = some x) : W2.heap[g]? = some x := by rw [e]; exact blk_keep h o
theorem new_of {W W2 : World} {o : Obj} (e : W2 = W.alloc o) : W2.heap[W.heap.size]? = some o := by rw [e]; exact World.alloc_heap_new W o
theorem own_block {n g : Nat} {W : World} {l : List (Int × Int)} (hg : n ≤ g) (hl : l.length ≤ 100) (h : W.heap[g]? = some (.cells (flatP l).toArray 91 (0, 0))) : OwnStp n W (.slice (some ⟨g, 0, none⟩) l.length l.length) l := by
 have hf := flatP_len l
 exact ⟨hf, .inr ⟨g, l.length, (flatP l).toArray, rfl, hg, h, Nat.le_refl _, by unfold maxLen; omega, by simpa using hf, by rw [← hf]; simp⟩⟩
structure LibAt (V : World) (g bV : Nat) (L : List (List (Int × Int))) : Prop where
 row : ∀ i, i < 16 → V.cell? ⟨bV, i, none⟩ = some (.slice (some ⟨g + i, 0, none⟩) (L[i]?.getD []).length (L[i]?.getD []).length)
 blk : ∀ i, i < 16 → V.heap[g + i]? = some (.cells (flatP (L[i]?.getD [])).toArray 91 (0, 0))
set_option maxRecDepth 100000 in
theorem lib_made (W : World) (D E B K R : Int) : LibAt (((((((((((((((((W.alloc (.cells #[.int .i64 1, .int .i64 D, .int .i64 3, .int .i64 0] 91)).alloc (.cells #[.int .i64 1, .int .i64 D, .int .i64 4, .int .i64 0, .int .i64 6, .int .i64 0] 91)).alloc (.cells #[.int .i64 2, .int .i64 D] 91)).alloc (.cells #[.int .i64 2, .int .i64 D, .int .i64 4, .int .i64 0, .int .i64 6, .int .i64 0] 91)).alloc (.cells #[.int .i64 1, .int .i64 D, .int .i64 4, .int .i64 0, .int .i64 6, .int .i64 0, .int .i64 1, .int .i64 D] 91)).alloc (.cells #[.int .i64 1, .int .i64 D, .int .i64 1, .int .i64 E] 91)).alloc (.cells #[.int .i64 1, .int .i64 D, .int .i64 7, .int .i64 D] 91)).alloc (.cells #[.int .i64 1, .int .i64 D, .int .i64 3, .int .i64 0, .int .i64 8, .int .i64 K] 91)).alloc (.cells #[.int .i64 9, .int .i64 R, .int .i64 1, .int .i64 D, .int .i64 1, .int .i64 D, .int .i64 10, .int .i64 R] 91)).alloc (.cells #[.int .i64 1, .int .i64 D, .int .i64 5, .int .i64 0, .int .i64 1, .int .i64 D, .int .i64 3, .int .i64 0] 91)).alloc (.cells #[.int .i64 10, .int .i64 R, .int .i64 1, .int .i64 D] 91)).alloc (.cells #[.int .i64 1, .int .i64 D, .int .i64 4, .int .i64 0, .int .i64 6, .int .i64 0, .int .i64 1, .int .i64 B] 91)).alloc (.cells #[.int .i64 1, .int .i64 D, .int .i64 4, .int .i64 0, .int .i64 6, .int .i64 0, .int .i64 1, .int .i64 E, .int .i64 4, .int .i64 0, .int .i64 6, .int .i64 0] 91)).alloc (.cells #[.int .i64 2, .int .i64 D, .int .i64 5, .int .i64 0, .int .i64 1, .int .i64 D] 91)).alloc (.cells #[.int .i64 1, .int .i64 D, .int .i64 4, .int .i64 0, .int .i64 6, .int .i64 0, .int .i64 8, .int .i64 K] 91)).alloc (.cells #[.int .i64 1, .int .i64 D, .int .i64 7, .int .i64 D, .int .i64 1, .int .i64 E] 91)).alloc (.cells #[.slice (some ⟨W.heap.size, 0, none⟩) 2 2, .slice (some ⟨W.heap.size + 1, 0, none⟩) 3 3, .slice (some ⟨W.heap.size + 1 + 1, 0, none⟩) 1 1, .slice (some ⟨W.heap.size + 1 + 1 + 1, 0, none⟩) 3 3, .slice (some ⟨W.heap.size + 1 + 1 + 1 + 1, 0, none⟩) 4 4, .slice (some ⟨W.heap.size + 1 + 1 + 1 + 1 + 1, 0, none⟩) 2 2, .slice (some ⟨W.heap.size + 1 + 1 + 1 + 1 + 1 + 1, 0, none⟩) 2 2, .slice (some ⟨W.heap.size + 1 + 1 + 1 + 1 + 1 + 1 + 1, 0, none⟩) 3 3, .slice (some ⟨W.heap.size + 1 + 1 + 1 + 1 + 1 + 1 + 1 + 1, 0, none⟩) 4 4, .slice (some ⟨W.heap.size + 1 + 1 + 1 + 1 + 1 + 1 + 1 + 1 + 1, 0, none⟩) 4 4, .slice (some ⟨W.heap.size + 1 + 1 + 1 + 1 + 1 + 1 + 1 + 1 + 1 + 1, 0, none⟩) 2 2, .slice (some ⟨W.heap.size + 1 + 1 + 1 + 1 + 1 + 1 + 1 + 1 + 1 + 1 + 1, 0, none⟩) 4 4, .slice (some ⟨W.heap.size + 1 + 1 + 1 + 1 + 1 + 1 + 1 + 1 + 1 + 1 + 1 + 1, 0, none⟩) 6 6, .slice (some ⟨W.heap.size + 1 + 1 + 1 + 1 + 1 + 1 + 1 + 1 + 1 + 1 + 1 + 1 + 1, 0, none⟩) 3 3, .slice (some ⟨W.heap.size + 1 + 1 + 1 + 1 + 1 + 1 + 1 + 1 + 1 + 1 + 1 + 1 + 1 + 1, 0, none⟩) 4 4, .slice (some ⟨W.heap.size + 1 + 1 + 1 + 1 + 1 + 1 + 1 + 1 + 1 + 1 + 1 + 1 + 1 + 1 + 1, 0, none⟩) 3 3] 68)) W.heap.size (W.heap.size + 1 + 1 + 1 + 1 + 1 + 1 + 1 + 1 + 1 + 1 + 1 + 1 + 1 + 1 + 1 + 1) (libL D E B K R) := by
 have s0 : W.heap.size = W.heap.size + 0 := by rfl
 obtain ⟨w0, e0⟩ : ∃ w0, w0 = W.alloc (.cells #[.int .i64 1, .int .i64 D, .int .i64 3, .int .i64 0] 91) := ⟨_, rfl⟩
 have c0 := new_of e0
 rw [s0] at c0
 rw [← e0]
 have s1 : w0.heap.size = W.heap.size + 1 := by rw [e0, World.size_alloc, s0]
 obtain ⟨w1, e1⟩ : ∃ w1, w1 = w0.alloc (.cells #[.int .i64 1, .int .i64 D, .int .i64 4, .int .i64 0, .int .i64 6, .int .i64 0] 91) := ⟨_, rfl⟩
 have c1 := new_of e1
 rw [s1] at c1
 replace c0 := blk_of e1 c0
 rw [← e1]
 have s2 : w1.heap.size = W.heap.size + 2 := by rw [e1, World.size_alloc, s1]
 obtain ⟨w2, e2⟩ : ∃ w2, w2 = w1.alloc (.cells #[.int .i64 2, .int .i64 D] 91) := ⟨_, rfl⟩
 have c2 := new_of e2
 rw [s2] at c2
 replace c0 := blk_of e2 c0
 replace c1 := blk_of e2 c1
 rw [← e2]
 have s3 : w2.heap.size = W.heap.size + 3 := by rw [e2, World.size_alloc, s2]
 obtain ⟨w3, e3⟩ : ∃ w3, w3 = w2.alloc (.cells #[.int .i64 2, .int .i64 D, .int .i64 4, .int .i64 0, .int .i64 6, .int .i64 0] 91) := ⟨_, rfl⟩
 have c3 := new_of e3
 rw [s3] at c3
 replace c0 := blk_of e3 c0
 replace c1 := blk_of e3 c1
 replace c2 := blk_of e3 c2
 rw [← e3]
 have s4 : w3.heap.size = W.heap.size + 4 := by rw [e3, World.size_alloc, s3]
 obtain ⟨w4, e4⟩ : ∃ w4, w4 = w3.alloc (.cells #[.int .i64 1, .int .i64 D, .int .i64 4, .int .i64 0, .int .i64 6, .int .i64 0, .int .i64 1, .int .i64 D] 91) := ⟨_, rfl⟩
 have c4 := new_of e4
 rw [s4] at c4
 replace c0 := blk_of e4 c0
 replace c1 := blk_of e4 c1
 replace c2 := blk_of e4 c2
 replace c3 := blk_of e4 c3
 rw [← e4]
 have s5 : w4.heap.size = W.heap.size + 5 := by rw [e4, World.size_alloc, s4]
 obtain ⟨w5, e5⟩ : ∃ w5, w5 = w4.alloc (.cells #[.int .i64 1, .int .i64 D, .int .i64 1, .int .i64 E] 91) := ⟨_, rfl⟩
 have c5 := new_of e5
 rw [s5] at c5
 replace c0 := blk_of e5 c0
 replace c1 := blk_of e5 c1
 replace c2 := blk_of e5 c2
 replace c3 := blk_of e5 c3
 replace c4 := blk_of e5 c4
 rw [← e5]
 have s6 : w5.heap.size = W.heap.size + 6 := by rw [e5, World.size_alloc, s5]
 obtain ⟨w6, e6⟩ : ∃ w6, w6 = w5.alloc (.cells #[.int .i64 1, .int .i64 D, .int .i64 7, .int .i64 D] 91) := ⟨_, rfl⟩
 have c6 := new_of e6
 rw [s6] at c6
 replace c0 := blk_of e6 c0
 replace c1 := blk_of e6 c1
 replace c2 := blk_of e6 c2
 replace c3 := blk_of e6 c3
 replace c4 := blk_of e6 c4
 replace c5 := blk_of e6 c5
 rw [← e6]
 have s7 : w6.heap.size = W.heap.size + 7 := by rw [e6, World.size_alloc, s6]
 obtain ⟨w7, e7⟩ : ∃ w7, w7 = w6.alloc (.cells #[.int .i64 1, .int .i64 D, .int .i64 3, .int .i64 0, .int .i64 8, .int .i64 K] 91) := ⟨_, rfl⟩
 have c7 := new_of e7
 rw [s7] at c7
 replace c0 := blk_of e7 c0
 replace c1 := blk_of e7 c1
 replace c2 := blk_of e7 c2
 replace c3 := blk_of e7 c3
 replace c4 := blk_of e7 c4
 replace c5 := blk_of e7 c5
 replace c6 := blk_of e7 c6
 rw [← e7]
 have s8 : w7.heap.size = W.heap.size + 8 := by rw [e7, World.size_alloc, s7]
 obtain ⟨w8, e8⟩ : ∃ w8, w8 = w7.alloc (.cells #[.int .i64 9, .int .i64 R, .int .i64 1, .int .i64 D, .int .i64 1, .int .i64 D, .int .i64 10, .int .i64 R] 91) := ⟨_, rfl⟩
 have c8 := new_of e8
 rw [s8] at c8
 replace c0 := blk_of e8 c0
 replace c1 := blk_of e8 c1
 replace c2 := blk_of e8 c2
 replace c3 := blk_of e8 c3
 replace c4 := blk_of e8 c4
 replace c5 := blk_of e8 c5
 replace c6 := blk_of e8 c6
 replace c7 := blk_of e8 c7
 rw [← e8]
 have s9 : w8.heap.size = W.heap.size + 9 := by rw [e8, World.size_alloc, s8]
 obtain ⟨w9, e9⟩ : ∃ w9, w9 = w8.alloc (.cells #[.int .i64 1, .int .i64 D, .int .i64 5, .int .i64 0, .int .i64 1, .int .i64 D, .int .i64 3, .int .i64 0] 91) := ⟨_, rfl⟩
 have c9 := new_of e9
 rw [s9] at c9
 replace c0 := blk_of e9 c0
 replace c1 := blk_of e9 c1
 replace c2 := blk_of e9 c2
 replace c3 := blk_of e9 c3
 replace c4 := blk_of e9 c4
 replace c5 := blk_of e9 c5
 replace c6 := blk_of e9 c6
 replace c7 := blk_of e9 c7
 replace c8 := blk_of e9 c8
 rw [← e9]
 have s10 : w9.heap.size = W.heap.size + 10 := by rw [e9, World.size_alloc, s9]
 obtain ⟨w10, e10⟩ : ∃ w10, w10 = w9.alloc (.cells #[.int .i64 10, .int .i64 R, .int .i64 1, .int .i64 D] 91) := ⟨_, rfl⟩
 have c10 := new_of e10
 rw [s10] at c10
 replace c0 := blk_of e10 c0
 replace c1 := blk_of e10 c1
 replace c2 := blk_of e10 c2
 replace c3 := blk_of e10 c3
 replace c4 := blk_of e10 c4
 replace c5 := blk_of e10 c5
 replace c6 := blk_of e10 c6
 replace c7 := blk_of e10 c7
 replace c8 := blk_of e10 c8
 replace c9 := blk_of e10 c9
 rw [← e10]
 have s11 : w10.heap.size = W.heap.size + 11 := by rw [e10, World.size_alloc, s10]
 obtain ⟨w11, e11⟩ : ∃ w11, w11 = w10.alloc (.cells #[.int .i64 1, .int .i64 D, .int .i64 4, .int .i64 0, .int .i64 6, .int .i64 0, .int .i64 1, .int .i64 B] 91) := ⟨_, rfl⟩
 have c11 := new_of e11
 rw [s11] at c11
 replace c0 := blk_of e11 c0
 replace c1 := blk_of e11 c1
 replace c2 := blk_of e11 c2
 replace c3 := blk_of e11 c3
 replace c4 := blk_of e11 c4
 replace c5 := blk_of e11 c5
 replace c6 := blk_of e11 c6
 replace c7 := blk_of e11 c7
 replace c8 := blk_of e11 c8
 replace c9 := blk_of e11 c9
 replace c10 := blk_of e11 c10
 rw [← e11]
 have s12 : w11.heap.size = W.heap.size + 12 := by rw [e11, World.size_alloc, s11]
 obtain ⟨w12, e12⟩ : ∃ w12, w12 = w11.alloc (.cells #[.int .i64 1, .int .i64 D, .int .i64 4, .int .i64 0, .int .i64 6, .int .i64 0, .int .i64 1, .int .i64 E, .int .i64 4, .int .i64 0, .int .i64 6, .int .i64 0] 91) := ⟨_, rfl⟩
 have c12 := new_of e12
 rw [s12] at c12
 replace c0 := blk_of e12 c0
 replace c1 := blk_of e12 c1
 replace c2 := blk_of e12 c2
 replace c3 := blk_of e12 c3
 replace c4 := blk_of e12 c4
 replace c5 := blk_of e12 c5
 replace c6 := blk_of e12 c6
 replace c7 := blk_of e12 c7
 replace c8 := blk_of e12 c8
 replace c9 := blk_of e12 c9
 replace c10 := blk_of e12 c10
 replace c11 := blk_of e12 c11
 rw [← e12]
 have s13 : w12.heap.size = W.heap.size + 13 := by rw [e12, World.size_alloc, s12]
 obtain ⟨w13, e13⟩ : ∃ w13, w13 = w12.alloc (.cells #[.int .i64 2, .int .i64 D, .int .i64 5, .int .i64 0, .int .i64 1, .int .i64 D] 91) := ⟨_, rfl⟩
 have c13 := new_of e13
 rw [s13] at c13
 replace c0 := blk_of e13 c0
 replace c1 := blk_of e13 c1
 replace c2 := blk_of e13 c2
 replace c3 := blk_of e13 c3
 replace c4 := blk_of e13 c4
 replace c5 := blk_of e13 c5
 replace c6 := blk_of e13 c6
 replace c7 := blk_of e13 c7
 replace c8 := blk_of e13 c8
 replace c9 := blk_of e13 c9
 replace c10 := blk_of e13 c10
 replace c11 := blk_of e13 c11
 replace c12 := blk_of e13 c12
 rw [← e13]
 have s14 : w13.heap.size = W.heap.size + 14 := by rw [e13, World.size_alloc, s13]
 obtain ⟨w14, e14⟩ : ∃ w14, w14 = w13.alloc (.cells #[.int .i64 1, .int .i64 D, .int .i64 4, .int .i64 0, .int .i64 6, .int .i64 0, .int .i64 8, .int .i64 K] 91) := ⟨_, rfl⟩
 have c14 := new_of e14
 rw [s14] at c14
 replace c0 := blk_of e14 c0
 replace c1 := blk_of e14 c1
 replace c2 := blk_of e14 c2
 replace c3 := blk_of e14 c3
 replace c4 := blk_of e14 c4
 replace c5 := blk_of e14 c5
 replace c6 := blk_of e14 c6
 replace c7 := blk_of e14 c7
 replace c8 := blk_of e14 c8
 replace c9 := blk_of e14 c9
 replace c10 := blk_of e14 c10
 replace c11 := blk_of e14 c11
 replace c12 := blk_of e14 c12
 replace c13 := blk_of e14 c13
 rw [← e14]
 have s15 : w14.heap.size = W.heap.size + 15 := by rw [e14, World.size_alloc, s14]
 obtain ⟨w15, e15⟩ : ∃ w15, w15 = w14.alloc (.cells #[.int .i64 1, .int .i64 D, .int .i64 7, .int .i64 D, .int .i64 1, .int .i64 E] 91) := ⟨_, rfl⟩
 have c15 := new_of e15
 rw [s15] at c15
 replace c0 := blk_of e15 c0
 replace c1 := blk_of e15 c1
 replace c2 := blk_of e15 c2
 replace c3 := blk_of e15 c3
 replace c4 := blk_of e15 c4
 replace c5 := blk_of e15 c5
 replace c6 := blk_of e15 c6
 replace c7 := blk_of e15 c7
 replace c8 := blk_of e15 c8
 replace c9 := blk_of e15 c9
 replace c10 := blk_of e15 c10
 replace c11 := blk_of e15 c11
 replace c12 := blk_of e15 c12
 replace c13 := blk_of e15 c13
 replace c14 := blk_of e15 c14
 rw [← e15]
 have s16 : w15.heap.size = W.heap.size + 16 := by rw [e15, World.size_alloc, s15]
 obtain ⟨w16, e16⟩ : ∃ w16, w16 = w15.alloc (.cells #[.slice (some ⟨W.heap.size, 0, none⟩) 2 2, .slice (some ⟨W.heap.size + 1, 0, none⟩) 3 3, .slice (some ⟨W.heap.size + 1 + 1, 0, none⟩) 1 1, .slice (some ⟨W.heap.size + 1 + 1 + 1, 0, none⟩) 3 3, .slice (some ⟨W.heap.size + 1 + 1 + 1 + 1, 0, none⟩) 4 4, .slice (some ⟨W.heap.size + 1 + 1 + 1 + 1 + 1, 0, none⟩) 2 2, .slice (some ⟨W.heap.size + 1 + 1 + 1 + 1 + 1 + 1, 0, none⟩) 2 2, .slice (some ⟨W.heap.size + 1 + 1 + 1 + 1 + 1 + 1 + 1, 0, none⟩) 3 3, .slice (some ⟨W.heap.size + 1 + 1 + 1 + 1 + 1 + 1 + 1 + 1, 0, none⟩) 4 4, .slice (some ⟨W.heap.size + 1 + 1 + 1 + 1 + 1 + 1 + 1 + 1 + 1, 0, none⟩) 4 4, .slice (some ⟨W.heap.size + 1 + 1 + 1 + 1 + 1 + 1 + 1 + 1 + 1 + 1, 0, none⟩) 2 2, .slice (some ⟨W.heap.size + 1 + 1 + 1 + 1 + 1 + 1 + 1 + 1 + 1 + 1 + 1, 0, none⟩) 4 4, .slice (some ⟨W.heap.size + 1 + 1 + 1 + 1 + 1 + 1 + 1 + 1 + 1 + 1 + 1 + 1, 0, none⟩) 6 6, .slice (some ⟨W.heap.size + 1 + 1 + 1 + 1 + 1 + 1 + 1 + 1 + 1 + 1 + 1 + 1 + 1, 0, none⟩) 3 3, .slice (some ⟨W.heap.size + 1 + 1 + 1 + 1 + 1 + 1 + 1 + 1 + 1 + 1 + 1 + 1 + 1 + 1, 0, none⟩) 4 4, .slice (some ⟨W.heap.size + 1 + 1 + 1 + 1 + 1 + 1 + 1 + 1 + 1 + 1 + 1 + 1 + 1 + 1 + 1, 0, none⟩) 3 3] 68) := ⟨_, rfl⟩
 have r := fun i => World.cell?_alloc_new w15 #[.slice (some ⟨W.heap.size, 0, none⟩) 2 2, .slice (some ⟨W.heap.size + 1, 0, none⟩) 3 3, .slice (some ⟨W.heap.size + 1 + 1, 0, none⟩) 1 1, .slice (some ⟨W.heap.size + 1 + 1 + 1, 0, none⟩) 3 3, .slice (some ⟨W.heap.size + 1 + 1 + 1 + 1, 0, none⟩) 4 4, .slice (some ⟨W.heap.size + 1 + 1 + 1 + 1 + 1, 0, none⟩) 2 2, .slice (some ⟨W.heap.size + 1 + 1 + 1 + 1 + 1 + 1, 0, none⟩) 2 2, .slice (some ⟨W.heap.size + 1 + 1 + 1 + 1 + 1 + 1 + 1, 0, none⟩) 3 3, .slice (some ⟨W.heap.size + 1 + 1 + 1 + 1 + 1 + 1 + 1 + 1, 0, none⟩) 4 4, .slice (some ⟨W.heap.size + 1 + 1 + 1 + 1 + 1 + 1 + 1 + 1 + 1, 0, none⟩) 4 4, .slice (some ⟨W.heap.size + 1 + 1 + 1 + 1 + 1 + 1 + 1 + 1 + 1 + 1, 0, none⟩) 2 2, .slice (some ⟨W.heap.size + 1 + 1 + 1 + 1 + 1 + 1 + 1 + 1 + 1 + 1 + 1, 0, none⟩) 4 4, .slice (some ⟨W.heap.size + 1 + 1 + 1 + 1 + 1 + 1 + 1 + 1 + 1 + 1 + 1 + 1, 0, none⟩) 6 6, .slice (some ⟨W.heap.size + 1 + 1 + 1 + 1 + 1 + 1 + 1 + 1 + 1 + 1 + 1 + 1 + 1, 0, none⟩) 3 3, .slice (some ⟨W.heap.size + 1 + 1 + 1 + 1 + 1 + 1 + 1 + 1 + 1 + 1 + 1 + 1 + 1 + 1, 0, none⟩) 4 4, .slice (some ⟨W.heap.size + 1 + 1 + 1 + 1 + 1 + 1 + 1 + 1 + 1 + 1 + 1 + 1 + 1 + 1 + 1, 0, none⟩) 3 3] 68 i
 rw [← e16, s16] at r
 replace c0 := blk_of e16 c0
 replace c1 := blk_of e16 c1
 replace c2 := blk_of e16 c2
 replace c3 := blk_of e16 c3
 replace c4 := blk_of e16 c4
 replace c5 := blk_of e16 c5
 replace c6 := blk_of e16 c6
 replace c7 := blk_of e16 c7
 replace c8 := blk_of e16 c8
 replace c9 := blk_of e16 c9
 replace c10 := blk_of e16 c10
 replace c11 := blk_of e16 c11
 replace c12 := blk_of e16 c12
 replace c13 := blk_of e16 c13
 replace c14 := blk_of e16 c14
 replace c15 := blk_of e16 c15
 rw [← e16]
 refine ⟨fun i hi => ?_, fun i hi => ?_⟩
 · refine (r i).trans ?_
   have : i = 0 ∨ i = 1 ∨ i = 2 ∨ i = 3 ∨ i = 4 ∨ i = 5 ∨ i = 6 ∨ i = 7 ∨ i = 8 ∨ i = 9 ∨ i = 10 ∨ i = 11 ∨ i = 12 ∨ i = 13 ∨ i = 14 ∨ i = 15 := by omega
   rcases this with rfl | rfl | rfl | rfl | rfl | rfl | rfl | rfl | rfl | rfl | rfl | rfl | rfl | rfl | rfl | rfl <;> rfl
 · have : i = 0 ∨ i = 1 ∨ i = 2 ∨ i = 3 ∨ i = 4 ∨ i = 5 ∨ i = 6 ∨ i = 7 ∨ i = 8 ∨ i = 9 ∨ i = 10 ∨ i = 11 ∨ i = 12 ∨ i = 13 ∨ i = 14 ∨ i = 15 := by omega
   rcases this with rfl | rfl | rfl | rfl | rfl | rfl | rfl | rfl | rfl | rfl | rfl | rfl | rfl | rfl | rfl | rfl
   · exact c0
   · exact c1
   · exact c2
   · exact c3
   · exact c4
   · exact c5
   · exact c6
   · exact c7
   · exact c8
   · exact c9
   · exact c10
   · exact c11
   · exact c12
   · exact c13
   · exact c14
   · exact c15
theorem lib_below (W : World) (D E B K R : Int) : Below W.heap.size W (((((((((((((((((W.alloc (.cells #[.int .i64 1, .int .i64 D, .int .i64 3, .int .i64 0] 91)).alloc (.cells #[.int .i64 1, .int .i64 D, .int .i64 4, .int .i64 0, .int .i64 6, .int .i64 0] 91)).alloc (.cells #[.int .i64 2, .int .i64 D] 91)).alloc (.cells #[.int .i64 2, .int .i64 D, .int .i64 4, .int .i64 0, .int .i64 6, .int .i64 0] 91)).alloc (.cells #[.int .i64 1, .int .i64 D, .int .i64 4, .int .i64 0, .int .i64 6, .int .i64 0, .int .i64 1, .int .i64 D] 91)).alloc (.cells #[.int .i64 1, .int .i64 D, .int .i64 1, .int .i64 E] 91)).alloc (.cells #[.int .i64 1, .int .i64 D, .int .i64 7, .int .i64 D] 91)).alloc (.cells #[.int .i64 1, .int .i64 D, .int .i64 3, .int .i64 0, .int .i64 8, .int .i64 K] 91)).alloc (.cells #[.int .i64 9, .int .i64 R, .int .i64 1, .int .i64 D, .int .i64 1, .int .i64 D, .int .i64 10, .int .i64 R] 91)).alloc (.cells #[.int .i64 1, .int .i64 D, .int .i64 5, .int .i64 0, .int .i64 1, .int .i64 D, .int .i64 3, .int .i64 0] 91)).alloc (.cells #[.int .i64 10, .int .i64 R, .int .i64 1, .int .i64 D] 91)).alloc (.cells #[.int .i64 1, .int .i64 D, .int .i64 4, .int .i64 0, .int .i64 6, .int .i64 0, .int .i64 1, .int .i64 B] 91)).alloc (.cells #[.int .i64 1, .int .i64 D, .int .i64 4, .int .i64 0, .int .i64 6, .int .i64 0, .int .i64 1, .int .i64 E, .int .i64 4, .int .i64 0, .int .i64 6, .int .i64 0] 91)).alloc (.cells #[.int .i64 2, .int .i64 D, .int .i64 5, .int .i64 0, .int .i64 1, .int .i64 D] 91)).alloc (.cells #[.int .i64 1, .int .i64 D, .int .i64 4, .int .i64 0, .int .i64 6, .int .i64 0, .int .i64 8, .int .i64 K] 91)).alloc (.cells #[.int .i64 1, .int .i64 D, .int .i64 7, .int .i64 D, .int .i64 1, .int .i64 E] 91)).alloc (.cells #[.slice (some ⟨W.heap.size, 0, none⟩) 2 2, .slice (some ⟨W.heap.size + 1, 0, none⟩) 3 3, .slice (some ⟨W.heap.size + 1 + 1, 0, none⟩) 1 1, .slice (some ⟨W.heap.size + 1 + 1 + 1, 0, none⟩) 3 3, .slice (some ⟨W.heap.size + 1 + 1 + 1 + 1, 0, none⟩) 4 4, .slice (some ⟨W.heap.size + 1 + 1 + 1 + 1 + 1, 0, none⟩) 2 2, .slice (some ⟨W.heap.size + 1 + 1 + 1 + 1 + 1 + 1, 0, none⟩) 2 2, .slice (some ⟨W.heap.size + 1 + 1 + 1 + 1 + 1 + 1 + 1, 0, none⟩) 3 3, .slice (some ⟨W.heap.size + 1 + 1 + 1 + 1 + 1 + 1 + 1 + 1, 0, none⟩) 4 4, .slice (some ⟨W.heap.size + 1 + 1 + 1 + 1 + 1 + 1 + 1 + 1 + 1, 0, none⟩) 4 4, .slice (some ⟨W.heap.size + 1 + 1 + 1 + 1 + 1 + 1 + 1 + 1 + 1 + 1, 0, none⟩) 2 2, .slice (some ⟨W.heap.size + 1 + 1 + 1 + 1 + 1 + 1 + 1 + 1 + 1 + 1 + 1, 0, none⟩) 4 4, .slice (some ⟨W.heap.size + 1 + 1 + 1 + 1 + 1 + 1 + 1 + 1 + 1 + 1 + 1 + 1, 0, none⟩) 6 6, .slice (some ⟨W.heap.size + 1 + 1 + 1 + 1 + 1 + 1 + 1 + 1 + 1 + 1 + 1 + 1 + 1, 0, none⟩) 3 3, .slice (some ⟨W.heap.size + 1 + 1 + 1 + 1 + 1 + 1 + 1 + 1 + 1 + 1 + 1 + 1 + 1 + 1, 0, none⟩) 4 4, .slice (some ⟨W.heap.size + 1 + 1 + 1 + 1 + 1 + 1 + 1 + 1 + 1 + 1 + 1 + 1 + 1 + 1 + 1, 0, none⟩) 3 3] 68)) := below_alloc (below_alloc (below_alloc (below_alloc (below_alloc (below_alloc (below_alloc (below_alloc (below_alloc (below_alloc (below_alloc (below_alloc (below_alloc (below_alloc (below_alloc (below_alloc (below_alloc (Below.refl _ _) _) _) _) _) _) _) _) _) _) _) _) _) _) _) _) _) _
theorem lib_small (D E B K R : Int) (i : Nat) : ((libL D E B K R)[i]?.getD []).length ≤ 6 := by
 by_cases h : i < 16
 · have : i = 0 ∨ i = 1 ∨ i = 2 ∨ i = 3 ∨ i = 4 ∨ i = 5 ∨ i = 6 ∨ i = 7 ∨ i = 8 ∨ i = 9 ∨ i = 10 ∨ i = 11 ∨ i = 12 ∨ i = 13 ∨ i = 14 ∨ i = 15 := by omega
   rcases this with rfl | rfl | rfl | rfl | rfl | rfl | rfl | rfl | rfl | rfl | rfl | rfl | rfl | rfl | rfl | rfl <;> simp [libL]
 · have : (libL D E B K R)[i]? = none := by simp [libL]; omega
   rw [this]; simp
theorem lt_up2 {b n : Nat} (h : b < n) : b < n + 1 + 1 := by omega
theorem lt_up3 {b n : Nat} (h : b < n) : b < n + 1 + 1 + 1 := by omega
theorem lt_up4 {b n : Nat} (h : b < n) : b < n + 1 + 1 + 1 + 1 := by omega
theorem lt_up5 {b n : Nat} (h : b < n) : b < n + 1 + 1 + 1 + 1 + 1 := by omega
theorem lt_up6 {b n : Nat} (h : b < n) : b < n + 1 + 1 + 1 + 1 + 1 + 1 := by omega
theorem lt_up7 {b n : Nat} (h : b < n) : b < n + 1 + 1 + 1 + 1 + 1 + 1 + 1 := by omega
theorem lt_up8 {b n : Nat} (h : b < n) : b < n + 1 + 1 + 1 + 1 + 1 + 1 + 1 + 1 := by omega
theorem lt_up9 {b n : Nat} (h : b < n) : b < n + 1 + 1 + 1 + 1 + 1 + 1 + 1 + 1 + 1 := by omega
theorem lt_up10 {b n : Nat} (h : b < n) : b < n + 1 + 1 + 1 + 1 + 1 + 1 + 1 + 1 + 1 + 1 := by omega
theorem lt_up11 {b n : Nat} (h : b < n) : b < n + 1 + 1 + 1 + 1 + 1 + 1 + 1 + 1 + 1 + 1 + 1 := by omega
theorem lt_up12 {b n : Nat} (h : b < n) : b < n + 1 + 1 + 1 + 1 + 1 + 1 + 1 + 1 + 1 + 1 + 1 + 1 := by omega
theorem lt_up13 {b n : Nat} (h : b < n) : b < n + 1 + 1 + 1 + 1 + 1 + 1 + 1 + 1 + 1 + 1 + 1 + 1 + 1 := by omega
theorem lt_up14 {b n : Nat} (h : b < n) : b < n + 1 + 1 + 1 + 1 + 1 + 1 + 1 + 1 + 1 + 1 + 1 + 1 + 1 + 1 := by omega
theorem lt_up15 {b n : Nat} (h : b < n) : b < n + 1 + 1 + 1 + 1 + 1 + 1 + 1 + 1 + 1 + 1 + 1 + 1 + 1 + 1 + 1 := by omega
theorem lt_up16 {b n : Nat} (h : b < n) : b < n + 1 + 1 + 1 + 1 + 1 + 1 + 1 + 1 + 1 + 1 + 1 + 1 + 1 + 1 + 1 + 1 := by omega
theorem lt_up17 {b n : Nat} (h : b < n) : b < n + 1 + 1 + 1 + 1 + 1 + 1 + 1 + 1 + 1 + 1 + 1 + 1 + 1 + 1 + 1 + 1 + 1 := by omega
attribute [local go_sem] lt_up2 lt_up3 lt_up4 lt_up5 lt_up6 lt_up7 lt_up8 lt_up9 lt_up10 lt_up11 lt_up12 lt_up13 lt_up14 lt_up15 lt_up16 lt_up17
set_option maxRecDepth 100000 in
set_option maxHeartbeats 4000000 in
theorem lib_any (l : List Nat) (a : Option Addr) (c N : Nat) (w : World) (hN : N ≤ w.heap.size) (hI : U8s N w a l) :
   Calls Tryz.prog 59 #[.slice a l.length c] w fun e w' => ∃ v, e = .returned v ∧ OwnStp w.heap.size w' v (libS l) ∧ Below w.heap.size w w' := by
 unfold libS
 have A0 := Lib.hid (fun W (h : U8s N W a l) => at_any l a c N 0 W (by omega) h)
 have A1 := Lib.hid (at_any l a c N 1 w (by omega) hI)
 have A2 := Lib.hid (at_any l a c N 2 w (by omega) hI)
 have A3 := Lib.hid (at_any l a c N 3 w (by omega) hI)
 have A4 := Lib.hid (at_any l a c N 4 w (by omega) hI)
 have z0 := hI.1 0
 have z1 := hI.1 1
 have z2 := hI.1 2
 have z3 := hI.1 3
 have z4 := hI.1 4
 have HI := Lib.hid hI
 clear hI
 generalize l[0]?.getD 0 = x0 at *
 generalize l[1]?.getD 0 = x1 at *
 generalize l[2]?.getD 0 = x2 at *
 generalize l[3]?.getD 0 = x3 at *
 generalize l[4]?.getD 0 = x4 at *
 obtain ⟨i, hi⟩ : ∃ i, i = x0 % 16 := ⟨_, rfl⟩
 have hi16 : i < 16 := by omega
 have hmod : (x0 : Int) % 16 = (i : Int) := by omega
 have hsml := lib_small ((x1 : Nat) % 8) ((x2 : Nat) % 8) (((x1 : Nat) + 4) % 8) ((x3 : Nat) % 6) ((x4 : Nat) % 4) i
 rw [← hi]
 generalize hP : (libL ((x1 : Nat) % 8) ((x2 : Nat) % 8) (((x1 : Nat) + 4) % 8) ((x3 : Nat) % 6) ((x4 : Nat) % 4))[i]?.getD [] = P at *
 have HP := Lib.hid hP
 have HI2 := Lib.hid hi
 have HM := Lib.hid hmod
 clear hP hi hmod
 go_enter Tryz.func59, Tryz.ntmps59
 go_wp2_with fail
 refine A1.out.mono ?_
 rintro e w' ⟨rfl, rfl⟩
 go_wp2_with fail
 refine A2.out.mono ?_
 rintro e w' ⟨rfl, rfl⟩
 go_wp2_with fail
 refine A3.out.mono ?_
 rintro e w' ⟨rfl, rfl⟩
 go_wp2_with fail
 refine A4.out.mono ?_
 rintro e w' ⟨rfl, rfl⟩
 go_upto_region 6 with (fail)
 have HT := tw_made w ((x1 : Nat) % 8) ((x2 : Nat) % 8) (((x1 : Nat) + 4) % 8) ((x3 : Nat) % 6) ((x4 : Nat) % 4)
 have hb := tw_below w ((x1 : Nat) % 8) ((x2 : Nat) % 8) (((x1 : Nat) + 4) % 8) ((x3 : Nat) % 6) ((x4 : Nat) % 4)
 generalize ((((((((((((w.alloc (.cells #[Value.int .i64 1, Value.int .i64 (↑x1 % 8)] 91)).alloc (.cells #[Value.int .i64 1, Value.int .i64 (↑x2 % 8)] 91)).alloc (.cells #[Value.int .i64 1, Value.int .i64 ((↑x1 + 4) % 8)] 91)).alloc (.cells #[Value.int .i64 2, Value.int .i64 (↑x1 % 8)] 91)).alloc (.cells #[Value.int .i64 7, Value.int .i64 (↑x1 % 8)] 91)).alloc (.cells #[Value.int .i64 3, Value.int .i64 0] 91)).alloc (.cells #[Value.int .i64 4, Value.int .i64 0] 91)).alloc (.cells #[Value.int .i64 5, Value.int .i64 0] 91)).alloc (.cells #[Value.int .i64 6, Value.int .i64 0] 91)).alloc (.cells #[Value.int .i64 8, Value.int .i64 (↑x3 % 6)] 91)).alloc (.cells #[Value.int .i64 9, Value.int .i64 (↑x4 % 4)] 91)).alloc (.cells #[Value.int .i64 10, Value.int .i64 (↑x4 % 4)] 91)) = W5 at *
 have hsz := HT.size
 have c0 : W5.cell? ⟨w.heap.size, 0, none⟩ = _ := HT.c0.1
 have d0 : W5.cell? ⟨w.heap.size, 1, none⟩ = _ := HT.c0.2
 have l0 : w.heap.size < W5.heap.size := by omega
 have c1 : W5.cell? ⟨w.heap.size + 1, 0, none⟩ = _ := HT.c1.1
 have d1 : W5.cell? ⟨w.heap.size + 1, 1, none⟩ = _ := HT.c1.2
 have l1 : w.heap.size + 1 < W5.heap.size := by omega
 have c2 : W5.cell? ⟨w.heap.size + 1 + 1, 0, none⟩ = _ := HT.c2.1
 have d2 : W5.cell? ⟨w.heap.size + 1 + 1, 1, none⟩ = _ := HT.c2.2
 have l2 : w.heap.size + 1 + 1 < W5.heap.size := by omega
 have c3 : W5.cell? ⟨w.heap.size + 1 + 1 + 1, 0, none⟩ = _ := HT.c3.1
 have d3 : W5.cell? ⟨w.heap.size + 1 + 1 + 1, 1, none⟩ = _ := HT.c3.2
 have l3 : w.heap.size + 1 + 1 + 1 < W5.heap.size := by omega
 have c4 : W5.cell? ⟨w.heap.size + 1 + 1 + 1 + 1, 0, none⟩ = _ := HT.c4.1
 have d4 : W5.cell? ⟨w.heap.size + 1 + 1 + 1 + 1, 1, none⟩ = _ := HT.c4.2
 have l4 : w.heap.size + 1 + 1 + 1 + 1 < W5.heap.size := by omega
 have c5 : W5.cell? ⟨w.heap.size + 1 + 1 + 1 + 1 + 1, 0, none⟩ = _ := HT.c5.1
 have d5 : W5.cell? ⟨w.heap.size + 1 + 1 + 1 + 1 + 1, 1, none⟩ = _ := HT.c5.2
 have l5 : w.heap.size + 1 + 1 + 1 + 1 + 1 < W5.heap.size := by omega
 have c6 : W5.cell? ⟨w.heap.size + 1 + 1 + 1 + 1 + 1 + 1, 0, none⟩ = _ := HT.c6.1
 have d6 : W5.cell? ⟨w.heap.size + 1 + 1 + 1 + 1 + 1 + 1, 1, none⟩ = _ := HT.c6.2
 have l6 : w.heap.size + 1 + 1 + 1 + 1 + 1 + 1 < W5.heap.size := by omega
 have c7 : W5.cell? ⟨w.heap.size + 1 + 1 + 1 + 1 + 1 + 1 + 1, 0, none⟩ = _ := HT.c7.1
 have d7 : W5.cell? ⟨w.heap.size + 1 + 1 + 1 + 1 + 1 + 1 + 1, 1, none⟩ = _ := HT.c7.2
 have l7 : w.heap.size + 1 + 1 + 1 + 1 + 1 + 1 + 1 < W5.heap.size := by omega
 have c8 : W5.cell? ⟨w.heap.size + 1 + 1 + 1 + 1 + 1 + 1 + 1 + 1, 0, none⟩ = _ := HT.c8.1
 have d8 : W5.cell? ⟨w.heap.size + 1 + 1 + 1 + 1 + 1 + 1 + 1 + 1, 1, none⟩ = _ := HT.c8.2
 have l8 : w.heap.size + 1 + 1 + 1 + 1 + 1 + 1 + 1 + 1 < W5.heap.size := by omega
 have c9 : W5.cell? ⟨w.heap.size + 1 + 1 + 1 + 1 + 1 + 1 + 1 + 1 + 1, 0, none⟩ = _ := HT.c9.1
 have d9 : W5.cell? ⟨w.heap.size + 1 + 1 + 1 + 1 + 1 + 1 + 1 + 1 + 1, 1, none⟩ = _ := HT.c9.2
 have l9 : w.heap.size + 1 + 1 + 1 + 1 + 1 + 1 + 1 + 1 + 1 < W5.heap.size := by omega
 have c10 : W5.cell? ⟨w.heap.size + 1 + 1 + 1 + 1 + 1 + 1 + 1 + 1 + 1 + 1, 0, none⟩ = _ := HT.c10.1
 have d10 : W5.cell? ⟨w.heap.size + 1 + 1 + 1 + 1 + 1 + 1 + 1 + 1 + 1 + 1, 1, none⟩ = _ := HT.c10.2
 have l10 : w.heap.size + 1 + 1 + 1 + 1 + 1 + 1 + 1 + 1 + 1 + 1 < W5.heap.size := by omega
 have c11 : W5.cell? ⟨w.heap.size + 1 + 1 + 1 + 1 + 1 + 1 + 1 + 1 + 1 + 1 + 1, 0, none⟩ = _ := HT.c11.1
 have d11 : W5.cell? ⟨w.heap.size + 1 + 1 + 1 + 1 + 1 + 1 + 1 + 1 + 1 + 1 + 1, 1, none⟩ = _ := HT.c11.2
 have l11 : w.heap.size + 1 + 1 + 1 + 1 + 1 + 1 + 1 + 1 + 1 + 1 + 1 < W5.heap.size := by omega
 clear HT hsz
 generalize w.heap.size + 1 + 1 + 1 + 1 + 1 + 1 + 1 + 1 + 1 + 1 + 1 = b11 at *
 generalize w.heap.size + 1 + 1 + 1 + 1 + 1 + 1 + 1 + 1 + 1 + 1 = b10 at *
 generalize w.heap.size + 1 + 1 + 1 + 1 + 1 + 1 + 1 + 1 + 1 = b9 at *
 generalize w.heap.size + 1 + 1 + 1 + 1 + 1 + 1 + 1 + 1 = b8 at *
 generalize w.heap.size + 1 + 1 + 1 + 1 + 1 + 1 + 1 = b7 at *
 generalize w.heap.size + 1 + 1 + 1 + 1 + 1 + 1 = b6 at *
 generalize w.heap.size + 1 + 1 + 1 + 1 + 1 = b5 at *
 generalize w.heap.size + 1 + 1 + 1 + 1 = b4 at *
 generalize w.heap.size + 1 + 1 + 1 = b3 at *
 generalize w.heap.size + 1 + 1 = b2 at *
 generalize w.heap.size + 1 = b1 at *
 go_upto_region 7 with (fail)
 have HL := lib_made W5 ((x1 : Nat) % 8) ((x2 : Nat) % 8) (((x1 : Nat) + 4) % 8) ((x3 : Nat) % 6) ((x4 : Nat) % 4)
 have hb2 := lib_below W5 ((x1 : Nat) % 8) ((x2 : Nat) % 8) (((x1 : Nat) + 4) % 8) ((x3 : Nat) % 6) ((x4 : Nat) % 4)
 generalize (((((((((((((((((W5.alloc (.cells #[Value.int .i64 1, Value.int .i64 (↑x1 % 8), Value.int .i64 3, Value.int .i64 0] 91)).alloc (.cells #[Value.int .i64 1, Value.int .i64 (↑x1 % 8), Value.int .i64 4, Value.int .i64 0, Value.int .i64 6, Value.int .i64 0] 91)).alloc (.cells #[Value.int .i64 2, Value.int .i64 (↑x1 % 8)] 91)).alloc (.cells #[Value.int .i64 2, Value.int .i64 (↑x1 % 8), Value.int .i64 4, Value.int .i64 0, Value.int .i64 6, Value.int .i64 0] 91)).alloc (.cells #[Value.int .i64 1, Value.int .i64 (↑x1 % 8), Value.int .i64 4, Value.int .i64 0, Value.int .i64 6, Value.int .i64 0, Value.int .i64 1, Value.int .i64 (↑x1 % 8)] 91)).alloc (.cells #[Value.int .i64 1, Value.int .i64 (↑x1 % 8), Value.int .i64 1, Value.int .i64 (↑x2 % 8)] 91)).alloc (.cells #[Value.int .i64 1, Value.int .i64 (↑x1 % 8), Value.int .i64 7, Value.int .i64 (↑x1 % 8)] 91)).alloc (.cells #[Value.int .i64 1, Value.int .i64 (↑x1 % 8), Value.int .i64 3, Value.int .i64 0, Value.int .i64 8, Value.int .i64 (↑x3 % 6)] 91)).alloc (.cells #[Value.int .i64 9, Value.int .i64 (↑x4 % 4), Value.int .i64 1, Value.int .i64 (↑x1 % 8), Value.int .i64 1, Value.int .i64 (↑x1 % 8), Value.int .i64 10, Value.int .i64 (↑x4 % 4)] 91)).alloc (.cells #[Value.int .i64 1, Value.int .i64 (↑x1 % 8), Value.int .i64 5, Value.int .i64 0, Value.int .i64 1, Value.int .i64 (↑x1 % 8), Value.int .i64 3, Value.int .i64 0] 91)).alloc (.cells #[Value.int .i64 10, Value.int .i64 (↑x4 % 4), Value.int .i64 1, Value.int .i64 (↑x1 % 8)] 91)).alloc (.cells #[Value.int .i64 1, Value.int .i64 (↑x1 % 8), Value.int .i64 4, Value.int .i64 0, Value.int .i64 6, Value.int .i64 0, Value.int .i64 1, Value.int .i64 ((↑x1 + 4) % 8)] 91)).alloc (.cells #[Value.int .i64 1, Value.int .i64 (↑x1 % 8), Value.int .i64 4, Value.int .i64 0, Value.int .i64 6, Value.int .i64 0, Value.int .i64 1, Value.int .i64 (↑x2 % 8), Value.int .i64 4, Value.int .i64 0, Value.int .i64 6, Value.int .i64 0] 91)).alloc (.cells #[Value.int .i64 2, Value.int .i64 (↑x1 % 8), Value.int .i64 5, Value.int .i64 0, Value.int .i64 1, Value.int .i64 (↑x1 % 8)] 91)).alloc (.cells #[Value.int .i64 1, Value.int .i64 (↑x1 % 8), Value.int .i64 4, Value.int .i64 0, Value.int .i64 6, Value.int .i64 0, Value.int .i64 8, Value.int .i64 (↑x3 % 6)] 91)).alloc (.cells #[Value.int .i64 1, Value.int .i64 (↑x1 % 8), Value.int .i64 7, Value.int .i64 (↑x1 % 8), Value.int .i64 1, Value.int .i64 (↑x2 % 8)] 91)).alloc (.cells #[Value.slice (some ⟨W5.heap.size, 0, none⟩) 2 2, Value.slice (some ⟨W5.heap.size + 1, 0, none⟩) 3 3, Value.slice (some ⟨W5.heap.size + 1 + 1, 0, none⟩) 1 1, Value.slice (some ⟨W5.heap.size + 1 + 1 + 1, 0, none⟩) 3 3, Value.slice (some ⟨W5.heap.size + 1 + 1 + 1 + 1, 0, none⟩) 4 4, Value.slice (some ⟨W5.heap.size + 1 + 1 + 1 + 1 + 1, 0, none⟩) 2 2, Value.slice (some ⟨W5.heap.size + 1 + 1 + 1 + 1 + 1 + 1, 0, none⟩) 2 2, Value.slice (some ⟨W5.heap.size + 1 + 1 + 1 + 1 + 1 + 1 + 1, 0, none⟩) 3 3, Value.slice (some ⟨W5.heap.size + 1 + 1 + 1 + 1 + 1 + 1 + 1 + 1, 0, none⟩) 4 4, Value.slice (some ⟨W5.heap.size + 1 + 1 + 1 + 1 + 1 + 1 + 1 + 1 + 1, 0, none⟩) 4 4, Value.slice (some ⟨W5.heap.size + 1 + 1 + 1 + 1 + 1 + 1 + 1 + 1 + 1 + 1, 0, none⟩) 2 2, Value.slice (some ⟨W5.heap.size + 1 + 1 + 1 + 1 + 1 + 1 + 1 + 1 + 1 + 1 + 1, 0, none⟩) 4 4, Value.slice (some ⟨W5.heap.size + 1 + 1 + 1 + 1 + 1 + 1 + 1 + 1 + 1 + 1 + 1 + 1, 0, none⟩) 6 6, Value.slice (some ⟨W5.heap.size + 1 + 1 + 1 + 1 + 1 + 1 + 1 + 1 + 1 + 1 + 1 + 1 + 1, 0, none⟩) 3 3, Value.slice (some ⟨W5.heap.size + 1 + 1 + 1 + 1 + 1 + 1 + 1 + 1 + 1 + 1 + 1 + 1 + 1 + 1, 0, none⟩) 4 4, Value.slice (some ⟨W5.heap.size + 1 + 1 + 1 + 1 + 1 + 1 + 1 + 1 + 1 + 1 + 1 + 1 + 1 + 1 + 1, 0, none⟩) 3 3] 68)) = W6 at *
 have hbw := below_step hb hb2
 have hrow := HL.row i hi16
 rw [HP.out] at hrow
 have hblk := HL.blk i hi16
 rw [HP.out] at hblk
 have hown : OwnStp w.heap.size W6 (.slice (some ⟨W5.heap.size + i, 0, none⟩) P.length P.length) P := own_block (by have := hb.size; omega) (by omega) hblk
 have hA := A0.out W6 (HI.out.up hN hbw)
 have HA := Lib.hid hA
 have HO := Lib.hid hown
 have HBW := Lib.hid hbw
 have hmod := HM.out
 generalize W5.heap.size + 1 + 1 + 1 + 1 + 1 + 1 + 1 + 1 + 1 + 1 + 1 + 1 + 1 + 1 + 1 + 1 = bV at *
 generalize W5.heap.size + i = bi at *
 clear HL hb2 hb hown hA hbw hblk c0 d0 l0 c1 d1 l1 c2 d2 l2 c3 d3 l3 c4 d4 l4 c5 d5 l5 c6 d6 l6 c7 d7 l7 c8 d8 l8 c9 d9 l9 c10 d10 l10 c11 d11 l11
 go_wp2_with fail
 refine HA.out.mono ?_
 rintro e w' ⟨rfl, rfl⟩
 go_wp2
 go_ret
 exact ⟨_, rfl, HO.out, HBW.out⟩
end Go.Proofs.YtbmcngoeinginaaGreatDoor
namespace Go.Proofs.YtbmcngoeinginaaGreatDoor
open Go Go.RowKit
def fit1 (d k r : Int) (x : Int × Int) : Option (Int × Int) :=
 if x.1 = 1 ∨ x.1 = 2 ∨ x.1 = 7 then some (x.1, x.2 % d) else if x.1 = 8 then some (x.1, x.2 % k) else if x.1 = 9 ∨ x.1 = 10 then (if r = 0 then none else some (x.1, x.2 % r)) else some x
def fitTo (d k r : Int) (P : List (Int × Int)) (n : Nat) : List (Int × Int) := (P.take n).filterMap (fit1 d k r)
def fitS (d k r : Int) (P : List (Int × Int)) : List (Int × Int) := if (P.filterMap (fit1 d k r)).length = 0 then [(3, 0)] else P.filterMap (fit1 d k r)
theorem fitTo_len (d k r : Int) (P : List (Int × Int)) (n : Nat) : (fitTo d k r P n).length ≤ P.length := by
 unfold fitTo
 exact Nat.le_trans (List.length_filterMap_le _ _) (by simp; omega)
theorem fitTo_some {d k r : Int} {P : List (Int × Int)} {n : Nat} (hn : n < P.length) {y : Int × Int} (h : fit1 d k r (P[n]?.getD (0, 0)) = some y) : fitTo d k r P (n + 1) = fitTo d k r P n ++ [y] := by
 unfold fitTo
 have hx : P[n]?.getD (0, 0) = P[n] := by simp [hn]
 rw [hx] at h
 rw [List.take_add_one, List.filterMap_append]
 simp [hn, h]
theorem fitTo_none {d k r : Int} {P : List (Int × Int)} {n : Nat} (hn : n < P.length) (h : fit1 d k r (P[n]?.getD (0, 0)) = none) : fitTo d k r P (n + 1) = fitTo d k r P n := by
 unfold fitTo
 have hx : P[n]?.getD (0, 0) = P[n] := by simp [hn]
 rw [hx] at h
 rw [List.take_add_one, List.filterMap_append]
 simp [hn, h]
set_option maxRecDepth 100000 in
set_option maxHeartbeats 4000000 in
theorem fit_any (P : List (Int × Int)) (d k r : Int) (a : Option Addr) (c N : Nat) (w : World) (hl : P.length ≤ 1000) (hP : ∀ x ∈ P, 0 ≤ x.2 ∧ x.2 ≤ 255) (hd : 1 ≤ d ∧ d ≤ 255) (hk : 1 ≤ k ∧ k ≤ 255) (hr : 0 ≤ r ∧ r ≤ 255) (hN : N ≤ w.heap.size) (hI : Prg N w a P) :
   Calls Tryz.prog 58 #[.slice a P.length c, .int .i64 d, .int .i64 k, .int .i64 r] w fun e w' => ∃ v, e = .returned v ∧ OwnStp w.heap.size w' v (fitS d k r P) ∧ Below w.heap.size w w' := by
 go_enter Tryz.func58, Tryz.ntmps58
 go_wp2_with fail
 have ho0 : OwnStp w.heap.size (w.alloc (.cells #[] 91)) (.slice (some ⟨w.heap.size, 0, none⟩) 0 0) (fitTo d k r P 0) := ownP_empty w _ rfl
 have hb0 : Below w.heap.size w (w.alloc (.cells #[] 91)) := by exact BLW
 generalize w.alloc (.cells #[] 91) = w0 at *
 go_loopw [9, 10] (fun v i wi => ∃ n : Nat, n ≤ P.length ∧ i = .int .i64 n ∧ OwnStp w.heap.size wi v (fitTo d k r P n) ∧ Below w.heap.size w wi)
   (fun _ i _ => P.length - (intOf i).toNat)
 case atStart => exact ⟨0, Nat.zero_le _, rfl, ho0, hb0⟩
 case round =>
   clear ho0 hb0;obtain ⟨n, hn, rfl, ho, hb⟩ := hrel
   by_cases hlt : n < P.length
   · obtain ⟨b, off, hab, hbN, hc0, hc1⟩ := (hI.up hN hb).at_ hlt
     subst hab
     have hx2 : 0 ≤ (P[n]?.getD (0, 0)).2 ∧ (P[n]?.getD (0, 0)).2 ≤ 255 := hP _ (by rw [List.getElem?_eq_getElem hlt, Option.getD_some]; exact List.getElem_mem hlt)
     have hfx := fun y => fitTo_some (d := d) (k := k) (r := r) (y := y) hlt
     have hfn := fitTo_none (d := d) (k := k) (r := r) hlt;have HF1 := Lib.hid (show fit1 d k r (P[n]?.getD (0, 0)) = if (P[n]?.getD (0, 0)).1 = 1 ∨ (P[n]?.getD (0, 0)).1 = 2 ∨ (P[n]?.getD (0, 0)).1 = 7 then some ((P[n]?.getD (0, 0)).1, (P[n]?.getD (0, 0)).2 % d) else if (P[n]?.getD (0, 0)).1 = 8 then some ((P[n]?.getD (0, 0)).1, (P[n]?.getD (0, 0)).2 % k) else if (P[n]?.getD (0, 0)).1 = 9 ∨ (P[n]?.getD (0, 0)).1 = 10 then (if r = 0 then none else some ((P[n]?.getD (0, 0)).1, (P[n]?.getD (0, 0)).2 % r)) else some (P[n]?.getD (0, 0)) from rfl);have hlen := fitTo_len d k r P n;generalize fitTo d k r P n = L at *;generalize fit1 d k r (P[n]?.getD (0, 0)) = F at *;obtain ⟨x, hx⟩ : ∃ x, P[n]?.getD (0, 0) = x := ⟨_, rfl⟩;rw [hx] at hc0 hc1 hx2 HF1;clear hx;obtain ⟨x1, x2⟩ := x;simp only at hc0 hc1 hx2 HF1;have HFX := Lib.hid hfx;have HFN := Lib.hid hfn;have HLT := Lib.hid hlt
     have HLL := Lib.hid (show L.length < 2000 by omega);have HO := Lib.hid ho;clear hfx hfn hlen hI ho;go_upto_region 6 with (fail);have kA := Lib.hid (World.alloc_heap_new wr (.cells #[.int .i64 x1, .int .i64 x2] 91));have HOA := Lib.hid (OwnStp.below HO.out (below_alloc (Below.refl _ wr) (.cells #[.int .i64 x1, .int .i64 x2] 91)));have hbA := below_alloc hb (.cells #[.int .i64 x1, .int .i64 x2] 91);have c0 := cell_new_at wr #[.int .i64 x1, .int .i64 x2] 91 wr.heap.size 0 _ rfl rfl;have c1 := cell_new_at wr #[.int .i64 x1, .int .i64 x2] 91 wr.heap.size 1 _ rfl rfl
     have g1 : (wr.alloc (.cells #[.int .i64 x1, .int .i64 x2] 91)).frozen? ⟨wr.heap.size, 1, none⟩ = false := by unfold World.frozen?; rw [kA.out]; simp
     have hsA : wr.heap.size < (wr.alloc (.cells #[.int .i64 x1, .int .i64 x2] 91)).heap.size := by simp
     generalize wr.alloc (.cells #[.int .i64 x1, .int .i64 x2] 91) = wA at *;clear hc0 hc1 hlt
     by_cases q1 : x1 = 1
     · have HB := Lib.hid (by rw [HF1.out, if_pos (.inl q1)] : F = some (x1, x2 % d))
       have u1 : (x1 == 1) = true := by simpa using q1
       have v1 : decide (x1 = 1) = true := by simpa using q1
       clear q1;have m0 : 0 ≤ x2 % d := Int.emod_nonneg _ (by omega);have m1 : x2 % d < d := Int.emod_lt_of_pos _ (by omega);have m2 : x2.tmod d = x2 % d := Int.tmod_eq_emod_of_nonneg (by omega);have m3 : IntKind.i64.wrap (x2 % d) = x2 % d := IntWalk.i64_in _ (by omega)
       have m5 : (d == 0) = false := by simp; omega
       have m6 : ¬ (d = 0) := by omega
       generalize x2 % d = y at *
       have hX : ((wA.setCell ⟨wr.heap.size, 1, none⟩ (.int .i64 (y)))).heap[wr.heap.size]? = some (.cells #[.int .i64 x1, .int .i64 (y)] 91 (0, 0)) := by simp [World.setCell, Array.getElem?_modify, kA.out]
       have hal : Alters (fun k => k = wr.heap.size) wA (wA.setCell ⟨wr.heap.size, 1, none⟩ (.int .i64 (y))) := alters_cell _ _ _ _
       have HOX := Lib.hid (OwnStp.alters HOA.out hal (fun k hk e => by have := (HO.out.row e).2; omega))
       have hbX := hbA.trans (hal.below hbA.size (fun k hk => by have := hb.size; omega))
       have e0 : (wA.setCell ⟨wr.heap.size, 1, none⟩ (.int .i64 (y))).cell? ⟨wr.heap.size, 0, none⟩ = some (.int .i64 x1) := by unfold World.cell?; rw [hX]; rfl
       have e1 : (wA.setCell ⟨wr.heap.size, 1, none⟩ (.int .i64 (y))).cell? ⟨wr.heap.size, 1, none⟩ = some (.int .i64 (y)) := by unfold World.cell?; rw [hX]; rfl
       go_upto_region 17 with (fail);clear hX hal;generalize (wA.setCell ⟨wr.heap.size, 1, none⟩ (.int .i64 (y))) = wX at *;have hlX := hbX.size;have hlP : Below w.heap.size w (wX.alloc (.cells #[.int .i64 x1, .int .i64 (y)] 91)) := below_alloc hbX _;have HOP := Lib.hid (OwnStp.below HOX.out (below_alloc (Below.refl _ wX) (.cells #[.int .i64 x1, .int .i64 (y)] 91)));have HE := Lib.hid (HFX.out _ HB.out)
       go_wp2_with (at_builtin; go_loud (refine wpList_pushB rfl 68 ty_prog (.tmp 51) (.tmp 53) rfl w hlP _ _ L rfl HOP.out HLL.out wX.heap.size 0 1 1 [(x1, y)] rfl rfl (by simp) (prg_lit wX _ x1 (y) rfl) ?_; intro v6 w6 hown6 hb6 _))
       go_roundw
       case rel => exact ⟨n + 1, HLT.out, by simp, by rw [HE.out]; exact hown6, hb6⟩
       case measure => simp [intOf]; have := HLT.out; omega
     have u1 : (x1 == 1) = false := by simpa using q1
     have v1 : decide (x1 = 1) = false := by simpa using q1
     by_cases q2 : x1 = 2
     · have HB := Lib.hid (by rw [HF1.out, if_pos (.inr (.inl q2))] : F = some (x1, x2 % d))
       have u2 : (x1 == 2) = true := by simpa using q2
       have v2 : decide (x1 = 2) = true := by simpa using q2
       clear q2 q1;have m0 : 0 ≤ x2 % d := Int.emod_nonneg _ (by omega);have m1 : x2 % d < d := Int.emod_lt_of_pos _ (by omega);have m2 : x2.tmod d = x2 % d := Int.tmod_eq_emod_of_nonneg (by omega);have m3 : IntKind.i64.wrap (x2 % d) = x2 % d := IntWalk.i64_in _ (by omega)
       have m5 : (d == 0) = false := by simp; omega
       have m6 : ¬ (d = 0) := by omega
       generalize x2 % d = y at *
       have hX : ((wA.setCell ⟨wr.heap.size, 1, none⟩ (.int .i64 (y)))).heap[wr.heap.size]? = some (.cells #[.int .i64 x1, .int .i64 (y)] 91 (0, 0)) := by simp [World.setCell, Array.getElem?_modify, kA.out]
       have hal : Alters (fun k => k = wr.heap.size) wA (wA.setCell ⟨wr.heap.size, 1, none⟩ (.int .i64 (y))) := alters_cell _ _ _ _
       have HOX := Lib.hid (OwnStp.alters HOA.out hal (fun k hk e => by have := (HO.out.row e).2; omega))
       have hbX := hbA.trans (hal.below hbA.size (fun k hk => by have := hb.size; omega))
       have e0 : (wA.setCell ⟨wr.heap.size, 1, none⟩ (.int .i64 (y))).cell? ⟨wr.heap.size, 0, none⟩ = some (.int .i64 x1) := by unfold World.cell?; rw [hX]; rfl
       have e1 : (wA.setCell ⟨wr.heap.size, 1, none⟩ (.int .i64 (y))).cell? ⟨wr.heap.size, 1, none⟩ = some (.int .i64 (y)) := by unfold World.cell?; rw [hX]; rfl
       go_upto_region 17 with (fail);clear hX hal;generalize (wA.setCell ⟨wr.heap.size, 1, none⟩ (.int .i64 (y))) = wX at *;have hlX := hbX.size;have hlP : Below w.heap.size w (wX.alloc (.cells #[.int .i64 x1, .int .i64 (y)] 91)) := below_alloc hbX _;have HOP := Lib.hid (OwnStp.below HOX.out (below_alloc (Below.refl _ wX) (.cells #[.int .i64 x1, .int .i64 (y)] 91)));have HE := Lib.hid (HFX.out _ HB.out)
       go_wp2_with (at_builtin; go_loud (refine wpList_pushB rfl 68 ty_prog (.tmp 51) (.tmp 53) rfl w hlP _ _ L rfl HOP.out HLL.out wX.heap.size 0 1 1 [(x1, y)] rfl rfl (by simp) (prg_lit wX _ x1 (y) rfl) ?_; intro v6 w6 hown6 hb6 _))
       go_roundw
       case rel => exact ⟨n + 1, HLT.out, by simp, by rw [HE.out]; exact hown6, hb6⟩
       case measure => simp [intOf]; have := HLT.out; omega
     have u2 : (x1 == 2) = false := by simpa using q2
     have v2 : decide (x1 = 2) = false := by simpa using q2
     by_cases q7 : x1 = 7
     · have HB := Lib.hid (by rw [HF1.out, if_pos (.inr (.inr q7))] : F = some (x1, x2 % d))
       have u7 : (x1 == 7) = true := by simpa using q7
       have v7 : decide (x1 = 7) = true := by simpa using q7
       clear q7 q2 q1;have m0 : 0 ≤ x2 % d := Int.emod_nonneg _ (by omega);have m1 : x2 % d < d := Int.emod_lt_of_pos _ (by omega);have m2 : x2.tmod d = x2 % d := Int.tmod_eq_emod_of_nonneg (by omega);have m3 : IntKind.i64.wrap (x2 % d) = x2 % d := IntWalk.i64_in _ (by omega)
       have m5 : (d == 0) = false := by simp; omega
       have m6 : ¬ (d = 0) := by omega
       generalize x2 % d = y at *
       have hX : ((wA.setCell ⟨wr.heap.size, 1, none⟩ (.int .i64 (y)))).heap[wr.heap.size]? = some (.cells #[.int .i64 x1, .int .i64 (y)] 91 (0, 0)) := by simp [World.setCell, Array.getElem?_modify, kA.out]
       have hal : Alters (fun k => k = wr.heap.size) wA (wA.setCell ⟨wr.heap.size, 1, none⟩ (.int .i64 (y))) := alters_cell _ _ _ _
       have HOX := Lib.hid (OwnStp.alters HOA.out hal (fun k hk e => by have := (HO.out.row e).2; omega))
       have hbX := hbA.trans (hal.below hbA.size (fun k hk => by have := hb.size; omega))
       have e0 : (wA.setCell ⟨wr.heap.size, 1, none⟩ (.int .i64 (y))).cell? ⟨wr.heap.size, 0, none⟩ = some (.int .i64 x1) := by unfold World.cell?; rw [hX]; rfl
       have e1 : (wA.setCell ⟨wr.heap.size, 1, none⟩ (.int .i64 (y))).cell? ⟨wr.heap.size, 1, none⟩ = some (.int .i64 (y)) := by unfold World.cell?; rw [hX]; rfl
       go_upto_region 17 with (fail);clear hX hal;generalize (wA.setCell ⟨wr.heap.size, 1, none⟩ (.int .i64 (y))) = wX at *;have hlX := hbX.size;have hlP : Below w.heap.size w (wX.alloc (.cells #[.int .i64 x1, .int .i64 (y)] 91)) := below_alloc hbX _;have HOP := Lib.hid (OwnStp.below HOX.out (below_alloc (Below.refl _ wX) (.cells #[.int .i64 x1, .int .i64 (y)] 91)));have HE := Lib.hid (HFX.out _ HB.out)
       go_wp2_with (at_builtin; go_loud (refine wpList_pushB rfl 68 ty_prog (.tmp 51) (.tmp 53) rfl w hlP _ _ L rfl HOP.out HLL.out wX.heap.size 0 1 1 [(x1, y)] rfl rfl (by simp) (prg_lit wX _ x1 (y) rfl) ?_; intro v6 w6 hown6 hb6 _))
       go_roundw
       case rel => exact ⟨n + 1, HLT.out, by simp, by rw [HE.out]; exact hown6, hb6⟩
       case measure => simp [intOf]; have := HLT.out; omega
     have u7 : (x1 == 7) = false := by simpa using q7
     have v7 : decide (x1 = 7) = false := by simpa using q7
     have hno : ¬ (x1 = 1 ∨ x1 = 2 ∨ x1 = 7) := by omega
     by_cases q8 : x1 = 8
     · have HB := Lib.hid (by rw [HF1.out, if_neg hno, if_pos q8] : F = some (x1, x2 % k))
       have u8 : (x1 == 8) = true := by simpa using q8
       have v8 : decide (x1 = 8) = true := by simpa using q8
       clear q8 q7 q2 q1 hno;have m0 : 0 ≤ x2 % k := Int.emod_nonneg _ (by omega);have m1 : x2 % k < k := Int.emod_lt_of_pos _ (by omega);have m2 : x2.tmod k = x2 % k := Int.tmod_eq_emod_of_nonneg (by omega);have m3 : IntKind.i64.wrap (x2 % k) = x2 % k := IntWalk.i64_in _ (by omega)
       have m5 : (k == 0) = false := by simp; omega
       have m6 : ¬ (k = 0) := by omega
       generalize x2 % k = y at *
       have hX : ((wA.setCell ⟨wr.heap.size, 1, none⟩ (.int .i64 (y)))).heap[wr.heap.size]? = some (.cells #[.int .i64 x1, .int .i64 (y)] 91 (0, 0)) := by simp [World.setCell, Array.getElem?_modify, kA.out]
       have hal : Alters (fun k => k = wr.heap.size) wA (wA.setCell ⟨wr.heap.size, 1, none⟩ (.int .i64 (y))) := alters_cell _ _ _ _
       have HOX := Lib.hid (OwnStp.alters HOA.out hal (fun k hk e => by have := (HO.out.row e).2; omega))
       have hbX := hbA.trans (hal.below hbA.size (fun k hk => by have := hb.size; omega))
       have e0 : (wA.setCell ⟨wr.heap.size, 1, none⟩ (.int .i64 (y))).cell? ⟨wr.heap.size, 0, none⟩ = some (.int .i64 x1) := by unfold World.cell?; rw [hX]; rfl
       have e1 : (wA.setCell ⟨wr.heap.size, 1, none⟩ (.int .i64 (y))).cell? ⟨wr.heap.size, 1, none⟩ = some (.int .i64 (y)) := by unfold World.cell?; rw [hX]; rfl
       go_upto_region 17 with (fail);clear hX hal;generalize (wA.setCell ⟨wr.heap.size, 1, none⟩ (.int .i64 (y))) = wX at *;have hlX := hbX.size;have hlP : Below w.heap.size w (wX.alloc (.cells #[.int .i64 x1, .int .i64 (y)] 91)) := below_alloc hbX _;have HOP := Lib.hid (OwnStp.below HOX.out (below_alloc (Below.refl _ wX) (.cells #[.int .i64 x1, .int .i64 (y)] 91)));have HE := Lib.hid (HFX.out _ HB.out)
       go_wp2_with (at_builtin; go_loud (refine wpList_pushB rfl 68 ty_prog (.tmp 51) (.tmp 53) rfl w hlP _ _ L rfl HOP.out HLL.out wX.heap.size 0 1 1 [(x1, y)] rfl rfl (by simp) (prg_lit wX _ x1 (y) rfl) ?_; intro v6 w6 hown6 hb6 _))
       go_roundw
       case rel => exact ⟨n + 1, HLT.out, by simp, by rw [HE.out]; exact hown6, hb6⟩
       case measure => simp [intOf]; have := HLT.out; omega
     have u8 : (x1 == 8) = false := by simpa using q8
     have v8 : decide (x1 = 8) = false := by simpa using q8
     by_cases q9 : x1 = 9
     · have u9 : (x1 == 9) = true := by simpa using q9
       have v9 : decide (x1 = 9) = true := by simpa using q9
       by_cases q0 : r = 0
       · have HB := Lib.hid (by rw [HF1.out, if_neg hno, if_neg q8, if_pos (.inl q9), if_pos q0] : F = none)
         have u0 : (r == 0) = true := by simpa using q0
         have v0 : decide (r = 0) = true := by simpa using q0
         clear q9 q8 q7 q2 q1 hno q0;have HE := Lib.hid (HFN.out HB.out)
         go_wp2_with fail
         go_roundw
         case rel => exact ⟨n + 1, HLT.out, by simp, by rw [HE.out]; exact HOA.out, hbA⟩
         case measure => simp [intOf]; have := HLT.out; omega
       have HB := Lib.hid (by rw [HF1.out, if_neg hno, if_neg q8, if_pos (.inl q9), if_neg q0] : F = some (x1, x2 % r))
       have u0 : (r == 0) = false := by simpa using q0
       have v0 : decide (r = 0) = false := by simpa using q0
       have hr1 : 1 ≤ r := by omega
       clear q9 q8 q7 q2 q1 hno;have m0 : 0 ≤ x2 % r := Int.emod_nonneg _ (by omega);have m1 : x2 % r < r := Int.emod_lt_of_pos _ (by omega);have m2 : x2.tmod r = x2 % r := Int.tmod_eq_emod_of_nonneg (by omega);have m3 : IntKind.i64.wrap (x2 % r) = x2 % r := IntWalk.i64_in _ (by omega)
       have m5 : (r == 0) = false := by simp; omega
       have m6 : ¬ (r = 0) := by omega
       generalize x2 % r = y at *
       have hX : ((wA.setCell ⟨wr.heap.size, 1, none⟩ (.int .i64 (y)))).heap[wr.heap.size]? = some (.cells #[.int .i64 x1, .int .i64 (y)] 91 (0, 0)) := by simp [World.setCell, Array.getElem?_modify, kA.out]
       have hal : Alters (fun k => k = wr.heap.size) wA (wA.setCell ⟨wr.heap.size, 1, none⟩ (.int .i64 (y))) := alters_cell _ _ _ _
       have HOX := Lib.hid (OwnStp.alters HOA.out hal (fun k hk e => by have := (HO.out.row e).2; omega))
       have hbX := hbA.trans (hal.below hbA.size (fun k hk => by have := hb.size; omega))
       have e0 : (wA.setCell ⟨wr.heap.size, 1, none⟩ (.int .i64 (y))).cell? ⟨wr.heap.size, 0, none⟩ = some (.int .i64 x1) := by unfold World.cell?; rw [hX]; rfl
       have e1 : (wA.setCell ⟨wr.heap.size, 1, none⟩ (.int .i64 (y))).cell? ⟨wr.heap.size, 1, none⟩ = some (.int .i64 (y)) := by unfold World.cell?; rw [hX]; rfl
       go_upto_region 17 with (fail);clear hX hal;generalize (wA.setCell ⟨wr.heap.size, 1, none⟩ (.int .i64 (y))) = wX at *;have hlX := hbX.size;have hlP : Below w.heap.size w (wX.alloc (.cells #[.int .i64 x1, .int .i64 (y)] 91)) := below_alloc hbX _;have HOP := Lib.hid (OwnStp.below HOX.out (below_alloc (Below.refl _ wX) (.cells #[.int .i64 x1, .int .i64 (y)] 91)));have HE := Lib.hid (HFX.out _ HB.out)
       go_wp2_with (at_builtin; go_loud (refine wpList_pushB rfl 68 ty_prog (.tmp 51) (.tmp 53) rfl w hlP _ _ L rfl HOP.out HLL.out wX.heap.size 0 1 1 [(x1, y)] rfl rfl (by simp) (prg_lit wX _ x1 (y) rfl) ?_; intro v6 w6 hown6 hb6 _))
       go_roundw
       case rel => exact ⟨n + 1, HLT.out, by simp, by rw [HE.out]; exact hown6, hb6⟩
       case measure => simp [intOf]; have := HLT.out; omega
     have u9 : (x1 == 9) = false := by simpa using q9
     have v9 : decide (x1 = 9) = false := by simpa using q9
     by_cases q10 : x1 = 10
     · have u10 : (x1 == 10) = true := by simpa using q10
       have v10 : decide (x1 = 10) = true := by simpa using q10
       by_cases q0 : r = 0
       · have HB := Lib.hid (by rw [HF1.out, if_neg hno, if_neg q8, if_pos (.inr q10), if_pos q0] : F = none)
         have u0 : (r == 0) = true := by simpa using q0
         have v0 : decide (r = 0) = true := by simpa using q0
         clear q10 q9 q8 q7 q2 q1 hno q0;have HE := Lib.hid (HFN.out HB.out)
         go_wp2_with fail
         go_roundw
         case rel => exact ⟨n + 1, HLT.out, by simp, by rw [HE.out]; exact HOA.out, hbA⟩
         case measure => simp [intOf]; have := HLT.out; omega
       have HB := Lib.hid (by rw [HF1.out, if_neg hno, if_neg q8, if_pos (.inr q10), if_neg q0] : F = some (x1, x2 % r))
       have u0 : (r == 0) = false := by simpa using q0
       have v0 : decide (r = 0) = false := by simpa using q0
       have hr1 : 1 ≤ r := by omega
       clear q10 q9 q8 q7 q2 q1 hno;have m0 : 0 ≤ x2 % r := Int.emod_nonneg _ (by omega);have m1 : x2 % r < r := Int.emod_lt_of_pos _ (by omega);have m2 : x2.tmod r = x2 % r := Int.tmod_eq_emod_of_nonneg (by omega);have m3 : IntKind.i64.wrap (x2 % r) = x2 % r := IntWalk.i64_in _ (by omega)
       have m5 : (r == 0) = false := by simp; omega
       have m6 : ¬ (r = 0) := by omega
       generalize x2 % r = y at *
       have hX : ((wA.setCell ⟨wr.heap.size, 1, none⟩ (.int .i64 (y)))).heap[wr.heap.size]? = some (.cells #[.int .i64 x1, .int .i64 (y)] 91 (0, 0)) := by simp [World.setCell, Array.getElem?_modify, kA.out]
       have hal : Alters (fun k => k = wr.heap.size) wA (wA.setCell ⟨wr.heap.size, 1, none⟩ (.int .i64 (y))) := alters_cell _ _ _ _
       have HOX := Lib.hid (OwnStp.alters HOA.out hal (fun k hk e => by have := (HO.out.row e).2; omega))
       have hbX := hbA.trans (hal.below hbA.size (fun k hk => by have := hb.size; omega))
       have e0 : (wA.setCell ⟨wr.heap.size, 1, none⟩ (.int .i64 (y))).cell? ⟨wr.heap.size, 0, none⟩ = some (.int .i64 x1) := by unfold World.cell?; rw [hX]; rfl
       have e1 : (wA.setCell ⟨wr.heap.size, 1, none⟩ (.int .i64 (y))).cell? ⟨wr.heap.size, 1, none⟩ = some (.int .i64 (y)) := by unfold World.cell?; rw [hX]; rfl
       go_upto_region 17 with (fail);clear hX hal;generalize (wA.setCell ⟨wr.heap.size, 1, none⟩ (.int .i64 (y))) = wX at *;have hlX := hbX.size;have hlP : Below w.heap.size w (wX.alloc (.cells #[.int .i64 x1, .int .i64 (y)] 91)) := below_alloc hbX _;have HOP := Lib.hid (OwnStp.below HOX.out (below_alloc (Below.refl _ wX) (.cells #[.int .i64 x1, .int .i64 (y)] 91)));have HE := Lib.hid (HFX.out _ HB.out)
       go_wp2_with (at_builtin; go_loud (refine wpList_pushB rfl 68 ty_prog (.tmp 51) (.tmp 53) rfl w hlP _ _ L rfl HOP.out HLL.out wX.heap.size 0 1 1 [(x1, y)] rfl rfl (by simp) (prg_lit wX _ x1 (y) rfl) ?_; intro v6 w6 hown6 hb6 _))
       go_roundw
       case rel => exact ⟨n + 1, HLT.out, by simp, by rw [HE.out]; exact hown6, hb6⟩
       case measure => simp [intOf]; have := HLT.out; omega
     have u10 : (x1 == 10) = false := by simpa using q10
     have v10 : decide (x1 = 10) = false := by simpa using q10
     have HB := Lib.hid (by rw [HF1.out, if_neg hno, if_neg q8, if_neg (show ¬ (x1 = 9 ∨ x1 = 10) by omega)] : F = some (x1, x2));clear q10 q9 q8 q7 q2 q1 hno;go_upto_region 17 with (fail);have e0 : wA.cell? ⟨wr.heap.size, 0, none⟩ = some (.int .i64 x1) := c0;have e1 : wA.cell? ⟨wr.heap.size, 1, none⟩ = some (.int .i64 x2) := c1;have HOX := HOA;have hbX := hbA;generalize wA = wX at *;have hlX := hbX.size;have hlP : Below w.heap.size w (wX.alloc (.cells #[.int .i64 x1, .int .i64 (x2)] 91)) := below_alloc hbX _;have HOP := Lib.hid (OwnStp.below HOX.out (below_alloc (Below.refl _ wX) (.cells #[.int .i64 x1, .int .i64 (x2)] 91)));have HE := Lib.hid (HFX.out _ HB.out)
     go_wp2_with (at_builtin; go_loud (refine wpList_pushB rfl 68 ty_prog (.tmp 51) (.tmp 53) rfl w hlP _ _ L rfl HOP.out HLL.out wX.heap.size 0 1 1 [(x1, x2)] rfl rfl (by simp) (prg_lit wX _ x1 (x2) rfl) ?_; intro v6 w6 hown6 hb6 _))
     go_roundw
     case rel => exact ⟨n + 1, HLT.out, by simp, by rw [HE.out]; exact hown6, hb6⟩
     case measure => simp [intOf]; have := HLT.out; omega
   · obtain rfl : n = P.length := by omega
     have hF : fitTo d k r P P.length = P.filterMap (fit1 d k r) := by unfold fitTo; simp
     rw [hF] at ho;have HS := Lib.hid (show fitS d k r P = if (P.filterMap (fit1 d k r)).length = 0 then [(3, 0)] else P.filterMap (fit1 d k r) from rfl);generalize P.filterMap (fit1 d k r) = L at *;obtain ⟨av, cv, rfl, _⟩ := ho.prg;have HO := Lib.hid ho
     by_cases h0 : L.length = 0
     · have u0 : ((L.length : Int) == 0) = true := by simpa using h0
       have u1 : (L.length == 0) = true := by simpa using h0
       have HE := Lib.hid (by rw [HS.out, if_pos h0] : fitS d k r P = [(3, 0)]);clear hF ho;rw [h0];go_wp2
       go_ret
       exact ⟨_, rfl, by rw [HE.out]; exact OwnStp.mono (ownP_lit wr _ 3 0 rfl) hb.size, below_alloc hb _⟩
     · have u0 : ((L.length : Int) == 0) = false := by simpa using h0
       have u1 : (L.length == 0) = false := by simpa using h0
       have HE := Lib.hid (by rw [HS.out, if_neg h0] : fitS d k r P = L);clear hF ho;go_wp2
       go_ret
       exact ⟨_, rfl, by rw [HE.out]; exact HO.out, hb⟩
end Go.Proofs.YtbmcngoeinginaaGreatDoor
namespace Go.Proofs.YtbmcngoeinginaaGreatDoor
open Go Go.RowKit
theorem libL_vals (D E B K R : Int) (hD : 0 ≤ D ∧ D ≤ 255) (hE : 0 ≤ E ∧ E ≤ 255) (hB : 0 ≤ B ∧ B ≤ 255) (hK : 0 ≤ K ∧ K ≤ 255) (hR : 0 ≤ R ∧ R ≤ 255) (i : Nat) : ∀ x ∈ (libL D E B K R)[i]?.getD [], 0 ≤ x.2 ∧ x.2 ≤ 255 := by
 by_cases h : i < 16
 · have : i = 0 ∨ i = 1 ∨ i = 2 ∨ i = 3 ∨ i = 4 ∨ i = 5 ∨ i = 6 ∨ i = 7 ∨ i = 8 ∨ i = 9 ∨ i = 10 ∨ i = 11 ∨ i = 12 ∨ i = 13 ∨ i = 14 ∨ i = 15 := by omega
   intro x hx
   rcases this with rfl | rfl | rfl | rfl | rfl | rfl | rfl | rfl | rfl | rfl | rfl | rfl | rfl | rfl | rfl | rfl <;> simp [libL] at hx <;> rcases hx with rfl | hx <;> (try (first | exact hD | exact hE | exact hR)) <;> (try (rcases hx with rfl | hx)) <;> (try (rcases hx with rfl | hx)) <;> (try (rcases hx with rfl | hx)) <;> (try (rcases hx with rfl | hx)) <;> (try (rcases hx with rfl | hx)) <;> (try subst hx) <;> (first | exact hD | exact hE | exact hB | exact hK | exact hR | (simp; done))
 · have : (libL D E B K R)[i]? = none := by simp [libL]; omega
   rw [this]; simp
theorem libS_vals (l : List Nat) : ∀ x ∈ libS l, 0 ≤ x.2 ∧ x.2 ≤ 255 := by
 unfold libS
 exact libL_vals _ _ _ _ _ (by omega) (by omega) (by omega) (by omega) (by omega) _
theorem libS_len (l : List Nat) : (libS l).length ≤ 6 := lib_small _ _ _ _ _ _
def progL (n : Nat) : List Nat := [n, n / 16, n / 16 + n % 5, n / 3, n]
def progS (n : Nat) (d k r : Int) : List (Int × Int) := fitS d k r (libS (progL n))
set_option maxRecDepth 100000 in
set_option maxHeartbeats 1000000 in
theorem prog_any (n : Nat) (hn : n ≤ 255) (d k r : Int) (hd : 1 ≤ d ∧ d ≤ 255) (hk : 1 ≤ k ∧ k ≤ 255) (hr : 0 ≤ r ∧ r ≤ 255) (w : World) :
   Calls Tryz.prog 32 #[.int .u8 n, .int .i64 d, .int .i64 k, .int .i64 r] w fun e w' => ∃ v, e = .returned v ∧ OwnStp w.heap.size w' v (progS n d k r) ∧ Below w.heap.size w w' := by
 have HV := Lib.hid (libS_vals (progL n))
 have HLL := Lib.hid (libS_len (progL n))
 have HS := Lib.hid (show progS n d k r = fitS d k r (libS (progL n)) from rfl)
 have hU : U8s (w.heap.size + 1) (w.alloc (.cells #[.int .u8 n, .int .u8 (n / 16 : Nat), .int .u8 (n / 16 + n % 5 : Nat), .int .u8 (n / 3 : Nat), .int .u8 n] 5)) (some ⟨w.heap.size, 0, none⟩) (progL n) := by
   refine ⟨fun j => ?_, .inr ⟨w.heap.size, 0, rfl, by omega, fun j hj => ?_⟩⟩
   · have h5 : n % 5 < 5 := Nat.mod_lt _ (by omega)
     rcases j with _ | _ | _ | _ | _ | j <;> simp [progL] <;> omega
   · have hj' : j < 5 := hj
     rw [Nat.zero_add];refine cell_new_at _ _ _ _ _ _ rfl ?_
     have : j = 0 ∨ j = 1 ∨ j = 2 ∨ j = 3 ∨ j = 4 := by omega
     rcases this with rfl | rfl | rfl | rfl | rfl <;> rfl
 have hL5 : (progL n).length = 5 := rfl
 have hlib := lib_any (progL n) (some ⟨w.heap.size, 0, none⟩) 5 (w.heap.size + 1) (w.alloc (.cells #[.int .u8 n, .int .u8 (n / 16 : Nat), .int .u8 (n / 16 + n % 5 : Nat), .int .u8 (n / 3 : Nat), .int .u8 n] 5)) (by simp) hU
 rw [hL5] at hlib
 have HLIB := Lib.hid hlib
 clear hlib hU hL5
 generalize libS (progL n) = P at *
 have h5 : n % 5 < 5 := Nat.mod_lt _ (by omega)
 have e1 : (n : Int).tdiv 16 = ((n / 16 : Nat) : Int) := rfl
 have e2 : (n : Int).tmod 5 = ((n % 5 : Nat) : Int) := rfl
 have e3 : (n : Int).tdiv 3 = ((n / 3 : Nat) : Int) := rfl
 have b1 : n / 16 ≤ 15 := by omega
 have b3 : n / 3 ≤ 85 := by omega
 generalize n / 16 = x1 at *
 generalize n % 5 = x2 at *
 generalize n / 3 = x3 at *
 obtain ⟨x12, hx12⟩ : ∃ x12, x12 = x1 + x2 := ⟨_, rfl⟩
 rw [← hx12] at HLIB
 have f1 : IntKind.u8.wrap (x1 : Int) = (x1 : Int) := by unfold IntKind.wrap; simp [IntKind.bits, IntKind.signed]; omega
 have f2 : IntKind.u8.wrap (x2 : Int) = (x2 : Int) := by unfold IntKind.wrap; simp [IntKind.bits, IntKind.signed]; omega
 have f3 : IntKind.u8.wrap (x3 : Int) = (x3 : Int) := by unfold IntKind.wrap; simp [IntKind.bits, IntKind.signed]; omega
 have f4 : IntKind.u8.wrap ((x1 : Int) + (x2 : Int)) = (x12 : Int) := by rw [hx12]; unfold IntKind.wrap; simp [IntKind.bits, IntKind.signed]; omega
 go_enter Tryz.func32, Tryz.ntmps32
 clear hx12
 go_wp2_with fail
 refine HLIB.out.mono ?_
 rintro e w1 ⟨v, rfl, hO, hb⟩
 obtain ⟨a, c, rfl, hP⟩ := hO.prg
 have hb' := (below_alloc (Below.refl _ w) (.cells #[.int .u8 n, .int .u8 x1, .int .u8 x12, .int .u8 x3, .int .u8 n] 5)).trans (hb.mono (by simp))
 have HF := Lib.hid (fit_any P d k r a c w1.heap.size w1 (by have := HLL.out; omega) HV.out hd hk hr (Nat.le_refl _) hP)
 go_wp2_with fail
 refine HF.out.mono ?_
 rintro e w2 ⟨v, rfl, hO2, hb2⟩
 have hbz := hb'.trans (hb2.mono hb'.size)
 go_wp2
 go_ret
 exact ⟨_, rfl, by rw [HS.out]; exact OwnStp.mono hO2 hb'.size, hbz⟩
end Go.Proofs.YtbmcngoeinginaaGreatDoor
