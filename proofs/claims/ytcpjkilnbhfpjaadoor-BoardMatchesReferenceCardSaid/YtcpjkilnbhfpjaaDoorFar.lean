/-
  Far of the package board, for valid boards.
-/
import Derived.Test.YtcpjkilnbhfpjaaDoorPartsW
namespace Go.Proofs.YtcpjkilnbhfpjaaDoor
open Go Go.RowKit Go.Shelf

theorem OwnRows.put {h g n : Nat} {G : Value → Prop} {rows : List (List Int)} {vs : List Value} {W : World} (hr : OwnRows h g n G rows vs W) {i : Nat} {v : Value} {row : List Int} (hi : i < n)
    (hown : OwnInts h W v row) (hfresh : ∀ k, some k = v.ownBlock → ∀ u ∈ vs, ¬ some k = u.ownBlock) (hne : ¬ some g = v.ownBlock) (hG : G v) :
    OwnRows h g n G (rows.set i row) (vs.set i v) (W.setCell ⟨g, i, none⟩ v) := by
  have hlv := hr.vlen
  have hlr := hr.rlen
  have ha : Alters (fun k => k = g) W (W.setCell ⟨g, i, none⟩ v) := ⟨rfl, rfl, rfl, by simp [World.setCell], fun k _ hk => Below.heap_setCell _ _ _ _ hk⟩
  refine ⟨?_, by simpa using hlv, by simpa using hlr, ?_, ?_, ?_⟩
  · simp [World.setCell, Array.getElem?_modify, hr.heap]
  · intro j u hu
    by_cases e : j = i
    · subst e
      rw [List.getElem?_set_self (by omega)] at hu
      cases hu
      rw [List.getElem?_set_self (by omega)]
      exact hown.alters ha (fun k hk => by rw [hk]; exact hne)
    · rw [List.getElem?_set_ne (by omega)] at hu ⊢
      exact (hr.own j u hu).alters ha (fun k hk => by rw [hk]; exact hr.not_own hu hr.heap (by decide))
  · intro j k u1 u2 h1 h2 hjk hn
    by_cases ej : j = i
    · subst ej
      rw [List.getElem?_set_self (by omega)] at h1
      cases h1
      rw [List.getElem?_set_ne hjk] at h2
      intro e
      obtain ⟨b, hb⟩ := Option.ne_none_iff_exists'.1 hn
      exact hfresh b hb.symm u2 (List.mem_of_getElem? h2) (by rw [← hb, e])
    · rw [List.getElem?_set_ne (by omega)] at h1
      by_cases ek : k = i
      · subst ek
        rw [List.getElem?_set_self (by omega)] at h2
        cases h2
        intro e
        obtain ⟨b, hb⟩ := Option.ne_none_iff_exists'.1 hn
        exact hfresh b (by rw [← e, hb]) u1 (List.mem_of_getElem? h1) hb.symm
      · rw [List.getElem?_set_ne (by omega)] at h2
        exact hr.apart j k u1 u2 h1 h2 hjk hn
  · intro u hu
    rcases List.mem_or_eq_of_mem_set hu with hu | rfl
    · exact hr.good u hu
    · exact hG

theorem wpList_make_rows {w : World} {ops : Array Oper} {rest : List Oper} {o : Oper} {a : Act} {Q : Exit → Act → World → Prop}
    (hg : o.guard = none) (l c : Operand) (hop : o.op = Op.makeSlice 28 l c) (n : Nat) (h64 : n ≤ 64) (C : Int) (hC : C = n) (hl : a.eval l = .int .i64 C) (hc : a.eval c = .int .i64 C)
    (hK : ∀ w', w' = w.alloc (.cells (nils n).toArray 29) → wpList Tryd.prog ops Q rest (a.put o.dst (.slice (some ⟨w.heap.size, 0, none⟩) n n)) w') :
    wpList Tryd.prog ops Q (o :: rest) a w := by
  obtain ⟨i0, hi, hz0, hz1, hz2⟩ := info_parts info_row
  refine wpList_plain hg fun K hK' => ?_
  subst hC
  have hr := run_make (P := Tryd.prog) w 28 29 i0 (.slice none 0 0) Tryd.underlying28 hi hz0 .i64 .i64 n n (by omega) (Int.le_refl _) (by rw [hz2]; omega) (by omega)
  simp only [Int.toNat_natCast, hz1, Nat.mul_one] at hr
  have e : madeCells (Value.slice none 0 0).cells n = (nils n).toArray := by
    apply Array.ext'
    rw [show (Value.slice none 0 0).cells = #[Value.slice none 0 0] from rfl, toList_madeCells_one]
    simp [nils]
  rw [e] at hr
  unfold Oper.wp
  simp [execOp, hop, hl, hc, hr, Result.andThen]
  exact hK' _ _ (hK _ rfl)

theorem step_call {w : World} {ops : Array Oper} {o : Oper} {a : Act} {K : Act → World → Prop} {Q : Exit → Act → World → Prop} {E : Prop} (hgd : o.guard = none) (f : Nat) (xs : Array Operand) (ts : Array TypeId) (args : Array Value)
    (ho : o.op = .call { callee := .value (.func f), args := xs, argTypes := ts }) (hal : xs.toList.map a.eval = args.toList) (eg : ∀ args w, (callFunc f args).run Tryd.prog w = .ok (.enter f args) w)
    (h : Calls Tryd.prog f args w fun e w' => ∃ v, e = .returned v ∧ K (a.put o.dst v) w') :
    if Region.wanted o (yielded ops a.tmps) = true then Oper.wp Tryd.prog o a w K Q else E := by
  have hw : Region.wanted o (yielded ops a.tmps) = true := by simp [Region.wanted, hgd]
  rw [if_pos hw]
  have ha : xs.map a.eval = args := Array.ext' (by simpa using hal)
  have hr : (execOp a.eval o).run Tryd.prog w = .ok (.enter f args) w := by
    simp [execOp, ho, resolve, Deferred.ofValue, Act.eval, invoke] at ha ⊢
    rw [ha]
    exact eg args w
  unfold Oper.wp
  rw [hr]
  exact h.mono (by rintro e w' ⟨v, rfl, hk⟩; exact hk)

def farTo (B : Brd) (n : Nat) : Nat → List (List Int)
  | 0 => List.replicate n []
  | k + 1 => (farTo B n k).set k (distS (stepsS B) n k)
def farS (B : Brd) : List (List Int) := farTo B B.cells.toNat B.cells.toNat

set_option maxRecDepth 100000 in
set_option maxHeartbeats 2000000 in
theorem far_any (B : Brd) (hv : validS B = true) (n : Nat) (hn : B.cells = n) (an at_ : Option Addr) (cn ct : Nat) (N : Nat) (w : World) (hN : N ≤ w.heap.size) (hH : Held N w an at_ B) :
    Calls Tryd.prog 23 #[B.val an cn at_ ct] w fun e W' => ∃ G vs, e = .returned (.slice (some ⟨G, 0, none⟩) n n) ∧ OwnRows w.heap.size G n (fun _ => True) (farS B) vs W' ∧ Below w.heap.size w W' ∧ w.heap.size ≤ G := by
  obtain ⟨hB, hrow, hturn⟩ := ok_of_valid hv
  have hlo := hB.lo
  have hhi := hB.hi
  have hdirs := hB.dirs
  have hpS : farS B = farTo B n n := by unfold farS; rw [hn]; rfl
  have HP := Lib.hid hpS
  have hn1 : 1 ≤ n := by omega
  have hn64 : n ≤ 64 := by omega
  have HN := Lib.hid hn
  clear hn hpS
  go_enter Tryd.func23, Tryd.ntmps23
  go_wp2_with fail
  refine (valid_any B an at_ cn ct N _ (by simp; omega) (hH.up hN (by (repeat (first | exact Below.refl _ _ | assumption | refine below_alloc ?_ _ | refine Below.drew ?_ | refine below_drewN_ ?_ _ | refine below_step ?_ (by assumption))))) hrow hturn).mono ?_
  rintro e w1 ⟨rfl, hb1⟩
  rw [hv]
  have hbw1 : Below w.heap.size w w1 := below_step (below_alloc (Below.refl _ _) _) hb1
  have hs1 := hb1.size
  rw [World.size_alloc] at hs1
  have k0 : w1.cell? ⟨w.heap.size, 0, none⟩ = some (.int .i64 B.cells) := cell_keep hb1 (cell_new_at _ _ _ _ _ _ rfl rfl)
  have k1 : w1.cell? ⟨w.heap.size, 1, none⟩ = some (.slice an B.next.length cn) := cell_keep hb1 (cell_new_at _ _ _ _ _ _ rfl rfl)
  have k2 : w1.cell? ⟨w.heap.size, 2, none⟩ = some (.slice at_ B.turn.length ct) := cell_keep hb1 (cell_new_at _ _ _ _ _ _ rfl rfl)
  clear hb1
  have hlt : w.heap.size < w1.heap.size := by omega
  go_wp2_with (at_make; refine wpList_make_rows rfl _ _ rfl n hn64 B.cells HN.out rfl rfl ?_; rintro w2 rfl)
  have hrows0 : OwnRows w.heap.size w1.heap.size n (fun _ => True) (farTo B n 0) (nils n) (w1.alloc (.cells (nils n).toArray 29)) := ownRows_new _ _ _ _ _ trivial (World.alloc_heap_new _ _)
  have hb2 : Below w.heap.size w (w1.alloc (.cells (nils n).toArray 29)) := below_alloc hbw1 _
  have c0 := cell_alloc_keep k0 (.cells (nils n).toArray 29)
  have c1 := cell_alloc_keep k1 (.cells (nils n).toArray 29)
  have c2 := cell_alloc_keep k2 (.cells (nils n).toArray 29)
  have hs2 : w1.heap.size + 1 ≤ (w1.alloc (.cells (nils n).toArray 29)).heap.size := by rw [World.size_alloc]; omega
  generalize w1.alloc (.cells (nils n).toArray 29) = w2 at hrows0 hb2 c0 c1 c2 hs2 ⊢
  clear k0 k1 k2
  go_loopw [13] (fun i wr => ∃ (c : Nat) (vs : List Value), c ≤ n ∧ i = .int .i64 c ∧ OwnRows w.heap.size w1.heap.size n (fun _ => True) (farTo B n c) vs wr ∧ Keep (fun k => k = w.heap.size) w2 wr ∧ Below w.heap.size w wr ∧ w2.heap.size ≤ wr.heap.size)
    (fun i _ => n - (intOf i).toNat)
  case atStart => exact ⟨0, nils n, Nat.zero_le _, rfl, hrows0, Keep.refl _ _, hb2, Nat.le_refl _⟩
  case round =>
    obtain ⟨c, vs, hc, rfl, hrows, hkp, hbw, hsw⟩ := hrel
    by_cases hltc : c < n
    · have e0 := (hkp.cell (p := ⟨w.heap.size, 0, none⟩) rfl).trans c0
      have e1 := (hkp.cell (p := ⟨w.heap.size, 1, none⟩) rfl).trans c1
      have e2 := (hkp.cell (p := ⟨w.heap.size, 2, none⟩) rfl).trans c2
      have hltr : w.heap.size < wr.heap.size := by omega
      go_wp2_with fail
      refine wp_region_held_drew (S := fun w' => w'.cell? ⟨w.heap.size, 0, none⟩ = some (.int .i64 B.cells) ∧ w'.cell? ⟨w.heap.size, 1, none⟩ = some (.slice an B.next.length cn) ∧ w'.cell? ⟨w.heap.size, 2, none⟩ = some (.slice at_ B.turn.length ct)) (by kernel_rfl) ⟨e0, e1, e2⟩ (fun hHeld => ?_)
      refine wpAnyH_take (i := 0) (oi := { dst := some 16, op := Op.move (Operand.tmp 3), type := 28, pos := "board.go:71", after := #[], guard := none }) (v := ?_) rfl (by kernel_rfl) (by kernel_rfl) (by kernel_rfl) (fun _ _ _ h => h) (Or.inl ⟨by rfl, ?_⟩) (by assumption) ?_
      rotate_left
      · ((intro w hSw; (try dsimp only at hSw); go_simp); try with_reducible rfl)
      (try simp only [Act.put, List.setIfInBounds_toArray, List.set_cons_zero, List.set_cons_succ])
      refine wpAnyH_take (i := 1) (oi := { dst := some 17, op := Op.move (Operand.tmp 4), type := 3, pos := "board.go:71", after := #[], guard := none }) (v := ?_) rfl (by kernel_rfl) (by kernel_rfl) (by kernel_rfl) (fun _ _ _ h => h) (Or.inl ⟨by rfl, ?_⟩) (by assumption) ?_
      rotate_left
      · ((intro w hSw; (try dsimp only at hSw); go_simp); try with_reducible rfl)
      (try simp only [Act.put, List.setIfInBounds_toArray, List.set_cons_zero, List.set_cons_succ])
      refine wpAnyH_take (i := 2) (oi := { dst := some 18, op := Op.fieldAddr 31 (Operand.tmp 1) 0, type := 0, pos := "board.go:71", after := #[], guard := none }) (v := ?_) rfl (by kernel_rfl) (by kernel_rfl) (by kernel_rfl) (fun _ _ _ h => h) (Or.inl ⟨by rfl, ?_⟩) (by assumption) ?_
      rotate_left
      · ((intro w hSw; (try dsimp only at hSw); go_simp); try with_reducible rfl)
      (try simp only [Act.put, List.setIfInBounds_toArray, List.set_cons_zero, List.set_cons_succ])
      refine wpAnyH_take (i := 3) (oi := { dst := some 19, op := Op.load 3 (Operand.tmp 18), type := 3, pos := "board.go:71", after := #[{ on := 2, ground := Ground.data }], guard := none }) (v := ?_) rfl (by kernel_rfl) (by kernel_rfl) (by kernel_rfl) (fun _ _ _ h => h) (Or.inl ⟨by rfl, ?_⟩) (by assumption) ?_
      rotate_left
      · ((intro w hSw; (try dsimp only at hSw); go_simp); try with_reducible rfl)
      (try simp only [Act.put, List.setIfInBounds_toArray, List.set_cons_zero, List.set_cons_succ])
      refine wpAnyH_take (i := 4) (oi := { dst := some 20, op := Op.move (Operand.tmp 4), type := 3, pos := "board.go:71", after := #[], guard := none }) (v := ?_) rfl (by kernel_rfl) (by kernel_rfl) (by kernel_rfl) (fun _ _ _ h => h) (Or.inl ⟨by rfl, ?_⟩) (by assumption) ?_
      rotate_left
      · ((intro w hSw; (try dsimp only at hSw); go_simp); try with_reducible rfl)
      (try simp only [Act.put, List.setIfInBounds_toArray, List.set_cons_zero, List.set_cons_succ])
      refine wpAnyH_take (i := 5) (oi := { dst := some 21, op := Op.load 31 (Operand.tmp 1), type := 31, pos := "board.go:71", after := #[], guard := none }) (v := ?_) rfl (by kernel_rfl) (by kernel_rfl) (by kernel_rfl) (fun _ _ _ h => h) (Or.inl ⟨by rfl, ?_⟩) (by assumption) ?_
      rotate_left
      · ((intro w hSw; (try dsimp only at hSw); go_simp); try with_reducible rfl)
      (try simp only [Act.put, List.setIfInBounds_toArray, List.set_cons_zero, List.set_cons_succ])
      refine wpAnyH_ready (rs := [6]) (by kernel_rfl) (by simp) ?_
      refine AllReadyH.cons (o := { dst := some 22, op := Op.call { callee := Callee.value (Operand.func 44), args := #[Operand.tmp 21], argTypes := #[31] }, type := 67, pos := "board.go:71", after := #[{ on := 5, ground := Ground.data }], guard := none }) rfl (fun K hK => ?_) AllReadyH.nil
      refine step_call rfl 44 _ _ #[.agg #[.int .i64 B.cells, .slice an B.next.length cn, .slice at_ B.turn.length ct]] rfl rfl (enters_of Tryd.func44 (by kernel_rfl) rfl) ((ahead_any _ _ _ _).mono ?_)
      rintro e w' ⟨rfl, hw6⟩
      have hB6 : Below wr.heap.size wr w' := by rw [← hw6]; exact ((Below.refl _ wr).drew).alloc (Nat.le_refl _) _
      have hs6 : w'.heap.size = wr.heap.size + 1 := by rw [← hw6, World.size_alloc]; rfl
      have b0 : w'.cell? ⟨wr.heap.size, 0, none⟩ = some (.int .i64 B.cells) := by rw [← hw6]; exact cell_new_at _ _ _ _ _ _ rfl rfl
      have b1 : w'.cell? ⟨wr.heap.size, 1, none⟩ = some (.slice an B.next.length cn) := by rw [← hw6]; exact cell_new_at _ _ _ _ _ _ rfl rfl
      have b2 : w'.cell? ⟨wr.heap.size, 2, none⟩ = some (.slice at_ B.turn.length ct) := by rw [← hw6]; exact cell_new_at _ _ _ _ _ _ rfl rfl
      clear hw6
      have hbw6 := below_step hbw hB6
      have hdist := callsIn_wide.1 (dist_any n hn1 hn64 c hltc 57 #[.pointer (some ⟨wr.heap.size, 0, none⟩)] (enters_of Tryd.func57 (by kernel_rfl) rfl) (stepsS B) (· < w'.heap.size) B.next.length w' (fun _ h => h)
        (fun c' x _ _ hx => by rw [← HN.out]; exact stepsS_in hB c' x hx) (ahead1_onward B hB n HN.out an at_ cn ct wr.heap.size N w' (by omega) b0 b1 b2 (by omega) (hH.up hN hbw6)))
      rw [← HN.out] at hdist
      refine ⟨_, rfl, hK.out _ _ ⟨cell_keep hB6 hHeld.1, cell_keep hB6 hHeld.2.1, cell_keep hB6 hHeld.2.2⟩ (fun hS6 => ?_)⟩
      clear hK K
      (try simp only [Act.put, List.setIfInBounds_toArray, List.set_cons_zero, List.set_cons_succ])
      refine wpAnyH_ready (rs := [7]) (by kernel_rfl) (by simp) ?_
      refine AllReadyH.cons (o := { dst := some 23, op := Op.call { callee := Callee.value (Operand.func 43), args := #[Operand.tmp 19, Operand.tmp 20, Operand.tmp 22], argTypes := #[3, 3, 67] }, type := 29, pos := "board.go:71", after := #[{ on := 3, ground := Ground.data }, { on := 4, ground := Ground.data }, { on := 6, ground := Ground.data }, { on := 6, ground := Ground.chain }], guard := none }) rfl (fun K hK => ?_) AllReadyH.nil
      refine step_call rfl 43 _ _ #[.int .i64 B.cells, .int .i64 c, .func (.func 57) #[] #[.pointer (some ⟨wr.heap.size, 0, none⟩)]] rfl rfl (enters_of Tryd.func43 (by kernel_rfl) rfl) (hdist.mono ?_)
      rintro e w7 ⟨v7, rfl, hown7, hb7⟩
      obtain ⟨o7, cap7, rfl, _⟩ := OwnInts.places hown7
      refine ⟨_, rfl, hK.out _ _ ⟨cell_keep hb7 hS6.1, cell_keep hb7 hS6.2.1, cell_keep hb7 hS6.2.2⟩ (fun hS7 => ?_)⟩
      clear hK K hdist
      (try simp only [Act.put, List.setIfInBounds_toArray, List.set_cons_zero, List.set_cons_succ])
      have hs7 := hb7.size
      have hB7 := below_step hB6 hb7
      have hbw7 := below_step hbw hB7
      have hrows7 := hrows.alters (S := fun _ => False) (Alters.of_below hB7) (fun h => h) (fun k hk => hk.elim)
      obtain ⟨u, hu, hcu, hfu⟩ := hrows7.cell hltc
      have hG7 : ¬ some w1.heap.size = (Value.slice o7 (distS (stepsS B) n c).length cap7).ownBlock := fun e => by have := (World.ownsRow.lt hown7 _ e.symm).1; have := hB6.size; omega
      refine wpAnyH_take (i := 8) (oi := { dst := some 24, op := Op.indexAddr 28 (Operand.tmp 16) (Operand.tmp 17), type := 0, pos := "board.go:71", after := #[{ on := 0, ground := Ground.data }, { on := 1, ground := Ground.data }, { on := 0, ground := Ground.phase }, { on := 1, ground := Ground.phase }, { on := 2, ground := Ground.phase }, { on := 3, ground := Ground.phase }, { on := 4, ground := Ground.phase }, { on := 5, ground := Ground.phase }, { on := 6, ground := Ground.phase }, { on := 7, ground := Ground.phase }], guard := none }) (v := ?_) rfl (by kernel_rfl) (by kernel_rfl) (by kernel_rfl) (fun _ _ _ h => h) (Or.inl ⟨by rfl, ?_⟩) (by assumption) ?_
      rotate_left
      · ((intro w hSw; (try dsimp only at hSw); go_simp); try with_reducible rfl)
      (try simp only [Act.put, List.setIfInBounds_toArray, List.set_cons_zero, List.set_cons_succ])
      refine wpAnyH_ready (rs := [9]) (by kernel_rfl) (by simp) ?_
      refine AllReadyH.cons (o := { dst := none, op := Op.store 29 (Operand.tmp 24) (Operand.tmp 23), type := 0, pos := "board.go:71", after := #[{ on := 8, ground := Ground.data }, { on := 7, ground := Ground.data }, { on := 7, ground := Ground.chain }, { on := 0, ground := Ground.phase }, { on := 1, ground := Ground.phase }, { on := 2, ground := Ground.phase }, { on := 3, ground := Ground.phase }, { on := 4, ground := Ground.phase }, { on := 5, ground := Ground.phase }, { on := 6, ground := Ground.phase }, { on := 7, ground := Ground.phase }], guard := none }) rfl (fun K hK => ?_) AllReadyH.nil
      go_simp
      refine hK.out _ _ ⟨?_, ?_, ?_⟩ (fun _ => ?_)
      · rw [World.cell?_setCell_other _ _ _ _ (fun e => by have h := congrArg Addr.block e; dsimp only at h; omega)]; exact hS7.1
      · rw [World.cell?_setCell_other _ _ _ _ (fun e => by have h := congrArg Addr.block e; dsimp only at h; omega)]; exact hS7.2.1
      · rw [World.cell?_setCell_other _ _ _ _ (fun e => by have h := congrArg Addr.block e; dsimp only at h; omega)]; exact hS7.2.2
      clear hK K
      (try simp only [Act.put, List.setIfInBounds_toArray, List.set_cons_zero, List.set_cons_succ])
      refine wpAnyH_done (by kernel_rfl) ?_ _
      have hrowsN := hrows7.put hltc (OwnInts.mono hown7 (by have := hbw.size; omega)) (fun k hk u hu e => by
        obtain ⟨i, hi⟩ := List.getElem?_of_mem hu
        have h1 := (World.ownsRow.lt (hrows.own i u hi) k e.symm).2
        have h2 := (World.ownsRow.lt hown7 k hk.symm).1
        omega) hG7 trivial
      have hrowsN' : OwnRows w.heap.size w1.heap.size n (fun _ => True) (farTo B n (c + 1)) _ _ := hrowsN
      have HR := Lib.hid hrowsN'
      have halN : Alters (fun k => k = w1.heap.size) wr (w7.setCell ⟨w1.heap.size, c, none⟩ (.slice o7 (distS (stepsS B) n c).length cap7)) := (Alters.of_below hB7).trans ⟨rfl, rfl, rfl, by simp [World.setCell], fun k _ hk => Below.heap_setCell _ _ _ _ hk⟩
      have hkN : Keep (fun k => k = w.heap.size) wr _ := halN.keep (fun k hk => by
        have : k = w.heap.size := hk
        omega)
      clear hHeld hS6 hS7 b0 b1 b2 hcu hfu hrows7 hrowsN hrowsN' hs6 hrows
      go_wp2
      go_roundw
      case rel => exact ⟨c + 1, _, by omega, by simp, HR.out, hkp.trans hkN, Below.setCell hbw7 (by show w.heap.size ≤ w1.heap.size; omega) _, by have := hkN.1; omega⟩
      case measure => simp [intOf]; omega
    · obtain rfl : c = n := by omega
      go_wp2
      go_ret
      exact ⟨_, _, rfl, by rw [HP.out]; exact hrows, hbw, by omega⟩
end Go.Proofs.YtcpjkilnbhfpjaaDoor
