/-
  Without of the package board.
-/
import Derived.Test.YtcpjkilnbhfpjaaDoorRowsN
import Derived.Laws.ResultCell
import Derived.Laws.NewBlocks
namespace Go.Proofs.YtcpjkilnbhfpjaaDoor
open Go Go.RowKit Go.Shelf

/-- The row behind k rounds: what leads from c, or to c, leads nowhere. -/
def outTo (c : Int) (row : List Int) : Nat → List Int
  | 0 => row
  | k + 1 => if (k : Int) = c ∨ row[k]?.getD 0 = c then (outTo c row k).set k (-1) else outTo c row k
def outRow (c : Int) (row : List Int) : List Int := outTo c row row.length
def withoutS (B : Brd) (c : Int) : Brd := { cells := B.cells, next := B.next.map (outRow c), turn := B.turn }

theorem outTo_len (c : Int) (row : List Int) (k : Nat) : (outTo c row k).length = row.length := by
  induction k with
  | zero => rfl
  | succ k ih => unfold outTo; split <;> simp [ih]
theorem outTo_later (c : Int) (row : List Int) (k j : Nat) (h : k ≤ j) : (outTo c row k)[j]?.getD 0 = row[j]?.getD 0 := by
  induction k with
  | zero => rfl
  | succ k ih =>
    unfold outTo
    split
    · rw [List.getElem?_set_ne (by omega)]; exact ih (by omega)
    · exact ih (by omega)

theorem own_type {n : Nat} {W : World} {e : TypeId} {size k : Nat} {v : Value} {xs : List Value} (h : W.ownsRow n e size v k xs) {B : Nat} {c : Array Value} {t : TypeId} {f : Nat × Nat} (hB : W.heap[B]? = some (.cells c t f)) (ht : t ≠ e) : ¬ some B = v.ownBlock := by
  intro e
  rcases h.2 with ⟨rfl, _⟩ | ⟨g', cap, cur, rfl, _, hc, _⟩
  · simp [Value.ownBlock] at e
  · obtain rfl : B = g' := by simpa [Value.ownBlock] using e
    rw [hB] at hc; cases hc; exact ht rfl

set_option maxRecDepth 100000 in
set_option maxHeartbeats 2000000 in
theorem without_any (B : Brd) (hB : B.Ok) (ht1 : 1 ≤ B.turn.length) (an at_ : Option Addr) (cn ct : Nat) (c : Int) (hc0 : 0 ≤ c) (hcn : c < B.cells) (N : Nat) (w : World) (hN : N ≤ w.heap.size) (hH : Held N w an at_ B) :
    Calls Tryd.prog 20 #[B.val an cn at_ ct, .int .i64 c] w fun e W' => ∃ an' cn' at' ct', e = .returned (.tuple #[(withoutS B c).val an' cn' at' ct', .int .i64 0]) ∧ Held W'.heap.size W' an' at' (withoutS B c) ∧ Below w.heap.size w W' := by
  have hlo := hB.lo
  have hhi := hB.hi
  have hdirs := hB.dirs
  have htl : B.turn.length ≤ 1000 := by have := hB.turn; omega
  go_enter Tryd.func20, Tryd.ntmps20
  go_wp2_with (go_at_call 41; refine (isCell_yes B.cells c _ _ _ hc0 hcn hhi).mono ?_; rintro e w' ⟨rfl, rfl⟩)
  have hcl : ∀ W : World, Below w.heap.size w W → Calls Tryd.prog 42 #[.slice at_ B.turn.length ct] W fun e w' => ∃ v, e = .returned v ∧ OwnInts W.heap.size w' v B.turn ∧ Below W.heap.size W w' := fun W hW => clone_any at_ ct N B.turn W ht1 htl (hH.2.up hN hW)
  generalize hw1 : ((w.alloc _).alloc _).alloc _ = w1
  have hs1 : w1.heap.size = w.heap.size + 3 := by rw [← hw1]; simp
  have hB1 : Below w.heap.size w w1 := by rw [← hw1]; (repeat (first | exact Below.refl _ _ | assumption | refine below_alloc ?_ _ | refine Below.drew ?_ | refine below_drewN_ ?_ _ | refine below_step ?_ (by assumption)))
  have k0 : w1.cell? ⟨w.heap.size, 0, none⟩ = some (.int .i64 B.cells) := by rw [← hw1]; exact cell_alloc_keep (cell_alloc_keep (cell_new_at _ _ _ _ _ _ rfl rfl) _) _
  have k1 : w1.cell? ⟨w.heap.size, 1, none⟩ = some (.slice an B.next.length cn) := by rw [← hw1]; exact cell_alloc_keep (cell_alloc_keep (cell_new_at _ _ _ _ _ _ rfl rfl) _) _
  have k2 : w1.cell? ⟨w.heap.size, 2, none⟩ = some (.slice at_ B.turn.length ct) := by rw [← hw1]; exact cell_alloc_keep (cell_alloc_keep (cell_new_at _ _ _ _ _ _ rfl rfl) _) _
  have k4 : w1.heap[w.heap.size + 1]? = some (.cells #[.int .i64 0, .slice none 0 0, .slice none 0 0] 31 (0, 0)) := by
    rw [← hw1]
    refine (Below.heap_alloc _ _ _ (by simp)).trans ?_
    have := World.alloc_heap_new (w.alloc (.cells #[.int .i64 B.cells, .slice an B.next.length cn, .slice at_ B.turn.length ct] 31)) (.cells #[.int .i64 0, .slice none 0 0, .slice none 0 0] 31)
    rw [World.size_alloc] at this
    exact this
  clear hw1
  refine wp_region_held_drew (S := fun w' => w'.cell? ⟨w.heap.size, 0, none⟩ = some (.int .i64 B.cells) ∧ w'.cell? ⟨w.heap.size, 2, none⟩ = some (.slice at_ B.turn.length ct)) (by kernel_rfl) ⟨k0, k2⟩ (fun hHeld => ?_)
  refine wpAnyH_take (i := 0) (oi := { dst := some 16, op := Op.fieldAddr 31 (Operand.tmp 2) 0, type := 0, pos := "board.go:128", after := #[], guard := none }) (v := ?_) rfl (by kernel_rfl) (by kernel_rfl) (by kernel_rfl) (fun _ _ _ h => h) (Or.inl ⟨by rfl, ?_⟩) (by assumption) ?_
  rotate_left
  · ((intro w hSw; (try dsimp only at hSw); go_simp); try with_reducible rfl)
  (try simp only [Act.put, List.setIfInBounds_toArray, List.set_cons_zero, List.set_cons_succ])
  refine wpAnyH_take (i := 1) (oi := { dst := some 17, op := Op.load 3 (Operand.tmp 16), type := 3, pos := "board.go:128", after := #[{ on := 0, ground := Ground.data }], guard := none }) (v := ?_) rfl (by kernel_rfl) (by kernel_rfl) (by kernel_rfl) (fun _ _ _ h => h) (Or.inl ⟨by rfl, ?_⟩) (by assumption) ?_
  rotate_left
  · ((intro w hSw; (try dsimp only at hSw); go_simp); try with_reducible rfl)
  (try simp only [Act.put, List.setIfInBounds_toArray, List.set_cons_zero, List.set_cons_succ])
  refine wpAnyH_take (i := 2) (oi := { dst := some 18, op := Op.fieldAddr 31 (Operand.tmp 2) 2, type := 0, pos := "board.go:128", after := #[], guard := none }) (v := ?_) rfl (by kernel_rfl) (by kernel_rfl) (by kernel_rfl) (fun _ _ _ h => h) (Or.inl ⟨by rfl, ?_⟩) (by assumption) ?_
  rotate_left
  · ((intro w hSw; (try dsimp only at hSw); go_simp); try with_reducible rfl)
  (try simp only [Act.put, List.setIfInBounds_toArray, List.set_cons_zero, List.set_cons_succ])
  refine wpAnyH_take (i := 3) (oi := { dst := some 19, op := Op.load 29 (Operand.tmp 18), type := 29, pos := "board.go:128", after := #[{ on := 2, ground := Ground.data }], guard := none }) (v := ?_) rfl (by kernel_rfl) (by kernel_rfl) (by kernel_rfl) (fun _ _ _ h => h) (Or.inl ⟨by rfl, ?_⟩) (by assumption) ?_
  rotate_left
  · ((intro w hSw; (try dsimp only at hSw); go_simp); try with_reducible rfl)
  (try simp only [Act.put, List.setIfInBounds_toArray, List.set_cons_zero, List.set_cons_succ])
  refine wpAnyH_ready (rs := [4, 6]) (by kernel_rfl) (by simp) ?_
  refine AllReadyH.cons (o := { dst := some 20, op := Op.call { callee := Callee.value (Operand.func 42), args := #[Operand.tmp 19], argTypes := #[29] }, type := 29, pos := "board.go:128", after := #[{ on := 3, ground := Ground.data }], guard := none }) rfl (fun K hK => ?_) (AllReadyH.cons (o := { dst := some 6, op := Op.alloc 31, type := 0, pos := "board.go:128", after := #[], guard := none }) rfl (fun K hK => ?_) AllReadyH.nil)
  · refine step_call rfl 42 _ _ #[.slice at_ B.turn.length ct] rfl rfl (enters_of Tryd.func42 (by kernel_rfl) rfl) ((hcl _ hB1.drew).mono ?_)
    rintro e w2 ⟨v, rfl, hown, hb2⟩
    obtain ⟨ov, cv, rfl, _⟩ := OwnInts.places hown
    refine ⟨_, rfl, hK.out _ _ ⟨cell_keep hb2 hHeld.1, cell_keep hb2 hHeld.2⟩ (fun hS2 => ?_)⟩
    clear hK K
    (try simp only [Act.put, List.setIfInBounds_toArray, List.set_cons_zero, List.set_cons_succ])
    refine wpAnyH_take (i := 5) (oi := { dst := some 21, op := Op.build 31 #[(0, Operand.tmp 17), (2, Operand.tmp 20)], type := 31, pos := "board.go:128", after := #[{ on := 1, ground := Ground.data }, { on := 4, ground := Ground.data }], guard := none }) (v := ?_) rfl (by kernel_rfl) (by kernel_rfl) (by kernel_rfl) (fun _ _ _ h => h) (Or.inl ⟨by rfl, ?_⟩) (by assumption) ?_
    rotate_left
    · ((intro w hSw; (try dsimp only at hSw); go_simp); try with_reducible rfl)
    (try simp only [Act.put, List.setIfInBounds_toArray, List.set_cons_zero, List.set_cons_succ])
    refine wpAnyH_ready (rs := [6]) (by kernel_rfl) (by simp) ?_
    refine AllReadyH.cons (o := { dst := some 6, op := Op.alloc 31, type := 0, pos := "board.go:128", after := #[], guard := none }) rfl (fun K hK => ?_) AllReadyH.nil
    go_simp
    refine hK.out _ _ ⟨cell_alloc_keep hS2.1 _, cell_alloc_keep hS2.2 _⟩ (fun hS3 => ?_)
    clear hK K
    (try simp only [Act.put, List.setIfInBounds_toArray, List.set_cons_zero, List.set_cons_succ])
    refine wpAnyH_ready (rs := [7]) (by kernel_rfl) (by simp) ?_
    refine AllReadyH.cons (o := { dst := none, op := Op.store 31 (Operand.tmp 6) (Operand.tmp 21), type := 0, pos := "board.go:128", after := #[{ on := 6, ground := Ground.data }, { on := 5, ground := Ground.data }, { on := 4, ground := Ground.chain }, { on := 0, ground := Ground.phase }, { on := 1, ground := Ground.phase }, { on := 2, ground := Ground.phase }, { on := 3, ground := Ground.phase }, { on := 4, ground := Ground.phase }, { on := 5, ground := Ground.phase }, { on := 6, ground := Ground.phase }], guard := none }) rfl (fun K hK => ?_) AllReadyH.nil
    go_simp
    refine hK.out _ _ ⟨cell_alloc_keep hS2.1 _, cell_alloc_keep hS2.2 _⟩ (fun _ => ?_)
    clear hK K
    (try simp only [Act.put, List.setIfInBounds_toArray, List.set_cons_zero, List.set_cons_succ])
    refine wpAnyH_done (by kernel_rfl) ?_ _
    have hb12 : Below w1.heap.size w1 w2 := below_step ((Below.refl _ w1).drew) hb2
    have hs2 := hb12.size
    have hX : (w2.alloc (.cells #[.int .i64 B.cells, .slice none 0 0, .slice ov B.turn.length cv] 31)).heap[w2.heap.size]? = some (.cells #[.int .i64 B.cells, .slice none 0 0, .slice ov B.turn.length cv] 31 (0, 0)) := World.alloc_heap_new _ _
    have hBX := below_alloc (below_step hB1 hb12) (.cells #[.int .i64 B.cells, .slice none 0 0, .slice ov B.turn.length cv] 31)
    have hownX : OwnInts w.heap.size (w2.alloc (.cells #[.int .i64 B.cells, .slice none 0 0, .slice ov B.turn.length cv] 31)) (.slice ov B.turn.length cv) B.turn := OwnInts.mono (n := w1.heap.size) (World.ownsRow.alloc hown _) (by omega)
    have hk1X : Below w1.heap.size w1 (w2.alloc (.cells #[.int .i64 B.cells, .slice none 0 0, .slice ov B.turn.length cv] 31)) := below_alloc hb12 _
    have hBo : w.heap.size + 3 ≤ w2.heap.size := by omega
    generalize w2.alloc (.cells #[.int .i64 B.cells, .slice none 0 0, .slice ov B.turn.length cv] 31) = X at hX hBX hownX hk1X ⊢
    generalize w2.heap.size = Bo at hX hBo ⊢
    clear hown hb2 hS2 hS3 hHeld hb12 hs2
    clear hcl
    have kX1 := cell_keep hk1X k1
    have kz : X.heap[w.heap.size + 1]? = _ := (hk1X.block _ (by omega)).trans k4
    have hXs : Bo < X.heap.size := (Array.getElem?_eq_some_iff.1 hX).1
    clear k0 k1 k2 k4 hk1X hs1
    go_wp2
    go_loopw [25] (fun i wr => ∃ (k : Nat) (on : Value) (vs : List Value), k ≤ B.next.length ∧ i = .int .i64 k ∧ Hid (wr.heap[Bo]? = some (.cells #[.int .i64 B.cells, on, .slice ov B.turn.length cv] 31 (0, 0))) ∧ RowsN w.heap.size wr on ((B.next.take k).map (outRow c)) vs ∧ OwnInts w.heap.size wr (.slice ov B.turn.length cv) B.turn ∧ Below w.heap.size w wr ∧ wr.heap[w.heap.size + 1]? = some (.cells #[.int .i64 0, .slice none 0 0, .slice none 0 0] 31 (0, 0)) ∧ X.heap.size ≤ wr.heap.size)
      (fun i _ => B.next.length - (intOf i).toNat)
    case atStart => exact ⟨0, _, [], Nat.zero_le _, rfl, Lib.hid hX, RowsN.nil _ _, hownX, hBX, kz, Nat.le_refl _⟩
    case round =>
      obtain ⟨k, on, vs, hk, rfl, hBox, hrows, hT, hbw, hz, hsz⟩ := hrel
      by_cases hlt : k < B.next.length
      · obtain ⟨b, off, aj, cj, hab, hbN, hcr, hI⟩ := (hH.up hN hbw).1.at_ hlt
        subst hab
        have hrl := hB.row k hlt
        generalize hr : B.next[k]?.getD [] = r at hcr hI hrl
        have hcl2 := clone_any aj cj N r wr (by omega) (by omega) hI
        have HR := Lib.hid hr
        have HL := Lib.hid hrl
        clear hr hrl
        go_wp2_with fail
        refine hcl2.mono ?_
        clear hcl2
        rintro e w4 ⟨v, rfl, hown4, hb4⟩
        rcases hown4.form with ⟨rfl, h0⟩ | ⟨G4, cap4, rfl, hG41, hG42⟩
        · have := HL.out; rw [h0] at this; simp at this; omega
        have hbw4 := below_step hbw hb4
        have hs4 := hb4.size
        have hrows4 := hrows.alters (S := fun _ => False) (Alters.of_below hb4) (fun _ h => h.elim) (fun _ h => h.elim)
        have hT4 := hT.alters (S := fun _ => False) (Alters.of_below hb4) (fun _ h => h.elim)
        have hz4 := (hb4.block (w.heap.size + 1) (by omega)).trans hz
        have hBox4 := Lib.hid ((hb4.block Bo (by omega)).trans hBox.out)
        have hrlen : r.length ≤ 64 := by have := HL.out; omega
        have hGo : ¬ some G4 = on.ownBlock := fun e => by have := (World.ownsRow.lt hrows.outer G4 e.symm).2; omega
        have hGv : ∀ v ∈ vs, ¬ some G4 = v.ownBlock := fun v hv e => by
          obtain ⟨i, hi⟩ := List.getElem?_of_mem hv
          have := (World.ownsRow.lt (hrows.own i v hi) G4 e.symm).2; omega
        have hGT : ¬ some G4 = (Value.slice ov B.turn.length cv).ownBlock := fun e => by have := (World.ownsRow.lt hT G4 e.symm).2; omega
        have hGB : ¬ Bo = G4 := by omega
        have hGz : ¬ w.heap.size + 1 = G4 := by omega
        have hGw : w.heap.size ≤ G4 := by omega
        have hown4' : w.heap.size ≤ wr.heap.size := hbw.size
        have hXw4 : X.heap.size ≤ w4.heap.size := by omega
        clear hBox hrows hT hz hb4 hI hcr
        go_wp2
        go_loopw [33] (fun i wr' => ∃ t : Nat, t ≤ r.length ∧ i = .int .i64 t ∧ OwnInts wr.heap.size wr' (.slice (some ⟨G4, 0, none⟩) r.length cap4) (outTo c r t) ∧ Alters (fun k => k = G4) w4 wr')
          (fun i _ => r.length - (intOf i).toNat)
        case atStart => exact ⟨0, Nat.zero_le _, rfl, hown4, Alters.refl _ _⟩
        case round =>
          obtain ⟨t, ht, rfl, hownt, halt⟩ := hrel
          by_cases htn : t < r.length
          · have hol := outTo_len c r t
            obtain ⟨hct, hft⟩ := OwnInts.cellAt hownt (j := t) (by omega)
            rw [outTo_later c r t t (Nat.le_refl t)] at hct
            generalize hy : r[t]?.getD 0 = y at hct
            have HY := Lib.hid hy
            have HOL := Lib.hid hol
            clear hy hol
            by_cases h1 : (t : Int) = c
            · have HM := Lib.hid (by rw [outTo, if_pos (.inl h1)] : outTo c r (t + 1) = (outTo c r t).set t (-1))
              have h1' : ((t : Int) == c) = true := by simpa using h1
              have h1'' : decide ((t : Int) = c) = true := by simpa using h1
              clear h1
              go_wp2
              go_roundw
              case rel => exact ⟨t + 1, by omega, by simp, by rw [HM.out]; exact hownt.set t (-1), halt.trans ⟨rfl, rfl, rfl, by simp [World.setCell], fun k _ hk => Below.heap_setCell _ _ _ _ hk⟩⟩
              case measure => simp [intOf]; omega
            · have h1' : ((t : Int) == c) = false := by simpa using h1
              have h1'' : decide ((t : Int) = c) = false := by simpa using h1
              by_cases h2 : y = c
              · have HM := Lib.hid (by rw [outTo, if_pos (.inr (by rw [HY.out]; exact h2))] : outTo c r (t + 1) = (outTo c r t).set t (-1))
                have h2' : (y == c) = true := by simpa using h2
                have h2'' : decide (y = c) = true := by simpa using h2
                clear h1 h2
                go_wp2
                go_roundw
                case rel => exact ⟨t + 1, by omega, by simp, by rw [HM.out]; exact hownt.set t (-1), halt.trans ⟨rfl, rfl, rfl, by simp [World.setCell], fun k _ hk => Below.heap_setCell _ _ _ _ hk⟩⟩
                case measure => simp [intOf]; omega
              · have HM := Lib.hid (by rw [outTo, if_neg (by rw [HY.out]; rintro (h | h); exact h1 h; exact h2 h)] : outTo c r (t + 1) = outTo c r t)
                have h2' : (y == c) = false := by simpa using h2
                have h2'' : decide (y = c) = false := by simpa using h2
                clear h1 h2
                go_wp2
                go_roundw
                case rel => exact ⟨t + 1, by omega, by simp, by rw [HM.out]; exact hownt, halt⟩
                case measure => simp [intOf]; omega
          · obtain rfl : t = r.length := by omega
            have hrowsN := hrows4.alters halt (fun k hk => by rw [hk]; exact hGo) (fun k hk v hv => by rw [hk]; exact hGv v hv)
            have hTN := hT4.alters halt (fun k hk => by rw [hk]; exact hGT)
            have hzN := (halt.block _ (Array.getElem?_eq_some_iff.1 hz4).1 hGz).trans hz4
            have hBoxN := (halt.block _ (Array.getElem?_eq_some_iff.1 hBox4.out).1 hGB).trans hBox4.out
            have hbwN := hbw4.trans (halt.below hbw4.size (fun k hk => by omega))
            have hvN : OwnInts w.heap.size wr (.slice (some ⟨G4, 0, none⟩) r.length cap4) (outRow c r) := OwnInts.mono hownt hown4'
            have hcB : wr.cell? ⟨Bo, 1, none⟩ = some on := by unfold World.cell?; rw [hBoxN]; rfl
            have hBlt : Bo < wr.heap.size := (Array.getElem?_eq_some_iff.1 hBoxN).1
            have hszN := halt.size
            have hlenN : ((B.next.take k).map (outRow c)).length = k := by simp; omega
            have hrowsA := hrowsN.alters (S := fun _ => False) (Alters.of_below ((Below.refl _ wr).alloc (Nat.le_refl _) (.cells #[.slice (some ⟨G4, 0, none⟩) r.length cap4] 29))) (fun _ h => h.elim) (fun _ h => h.elim)
            have hvA := hvN.alters (S := fun _ => False) (Alters.of_below ((Below.refl _ wr).alloc (Nat.le_refl _) (.cells #[.slice (some ⟨G4, 0, none⟩) r.length cap4] 29))) (fun _ h => h.elim)
            have HRA := Lib.hid hrowsA
            have HVA := Lib.hid hvA
            have HLN := Lib.hid hlenN
            have HRO := Lib.hid (by have := hrowsA.outer; rwa [hlenN] at this : (wr.alloc (.cells #[.slice (some ⟨G4, 0, none⟩) r.length cap4] 29)).ownsRow w.heap.size 29 1 on k vs)
            have HBN := Lib.hid hBoxN
            have HTN := Lib.hid hTN
            obtain ⟨i0, hi, hz0, hz1, hz2⟩ := info_parts info_row
            clear hrowsA hvA hlenN hBoxN hrowsN hTN hvN hownt
            go_wp2_with (at_builtin; go_loud (refine wpList_append_own_at _ rfl _ _ 28 rfl w.heap.size 29 i0 (.slice none 0 0) 1 24 Tryd.underlying28 hi hz0 hz1 hz2 rfl (by decide) on k vs rfl HRO.out ⟨wr.heap.size, 0, none⟩ 1 1 [.slice (some ⟨G4, 0, none⟩) r.length cap4] rfl rfl (cell_one_new _ _ _) (by simp [Value.oneCell']) (by unfold maxLen; omega) (by omega) (by have := hbwN.size; simp; omega) ?_; intro v' w5 hown5 hgrow5 _ hat5; obtain ⟨g', cap', rfl⟩ := ownsRow_succ hown5; have hb5 := (hgrow5.block Bo (by simp; omega) (own_type HRA.out.outer ((Below.heap_alloc _ _ _ hBlt).trans HBN.out) (by decide))).trans ((Below.heap_alloc _ _ _ hBlt).trans HBN.out); have hc5 : w5.cell? ⟨Bo, 1, none⟩ = some on := by { unfold World.cell?; rw [hb5]; rfl }; have hf5 : w5.frozen? ⟨Bo, 1, none⟩ = false := by { unfold World.frozen?; rw [hb5]; simp }; have HB5 := Lib.hid hb5; clear hb5))
            have hrowN := RowsN.append HRA.out HVA.out (by rw [HLN.out]; exact hown5) hgrow5
            have hBne := own_type hrowN.outer HB5.out (by decide)
            have haB : Alters (fun k => k = Bo) w5 (w5.setCell ⟨Bo, 1, none⟩ (.slice (some ⟨g', 0, none⟩) (k + 1) cap')) := ⟨rfl, rfl, rfl, by simp [World.setCell], fun k _ hk => Below.heap_setCell _ _ _ _ hk⟩
            have hBk : B.next[k]? = some r := by rw [← HR.out]; simp [hlt]
            have hall : Alters (fun k => k = Bo ∨ some k = on.ownBlock) wr (w5.setCell ⟨Bo, 1, none⟩ (.slice (some ⟨g', 0, none⟩) (k + 1) cap')) :=
              ((Alters.of_below ((Below.refl _ wr).alloc (Nat.le_refl _) _)).trans ((Alters.of_grown hgrow5).mono (fun _ _ h => .inr h))).trans (haB.mono (fun _ _ h => .inl h))
            have hlo2 : ∀ k, some k = on.ownBlock → w.heap.size ≤ k := fun k hk => (World.ownsRow.lt HRA.out.outer k hk.symm).1
            have hz5 := (hall.block _ (Array.getElem?_eq_some_iff.1 hzN).1 (by
              rintro (h | h)
              · omega
              · exact own_type HRA.out.outer ((Below.heap_alloc _ _ _ (Array.getElem?_eq_some_iff.1 hzN).1).trans hzN) (by decide) h)).trans hzN
            have hT5 := HTN.out.alters hall (fun k hk => by
              rcases hk with rfl | hk
              · exact own_type HTN.out HBN.out (by decide)
              · exact HRA.out.apart (HTN.out.alters (S := fun _ => False) (Alters.of_below ((Below.refl _ wr).alloc (Nat.le_refl _) _)) (fun _ h => h.elim)) hk)
            have hr5 := hrowN.alters haB (fun k hk => by rw [hk]; exact hBne) (fun k hk v hv => by
              rw [hk]
              obtain ⟨i, hi⟩ := List.getElem?_of_mem hv
              exact own_type (hrowN.own i v hi) HB5.out (by decide))
            have hb5 : (w5.setCell ⟨Bo, 1, none⟩ (.slice (some ⟨g', 0, none⟩) (k + 1) cap')).heap[Bo]? = some (.cells #[.int .i64 B.cells, .slice (some ⟨g', 0, none⟩) (k + 1) cap', .slice ov B.turn.length cv] 31 (0, 0)) := by
              simp [World.setCell, Array.getElem?_modify, HB5.out]
            have hbw5 := hbwN.trans (hall.below hbwN.size (fun k hk => by
              rcases hk with rfl | hk
              · omega
              · exact hlo2 k hk))
            have hsz5 := hall.size
            have hmap : (B.next.take (k + 1)).map (outRow c) = (B.next.take k).map (outRow c) ++ [outRow c r] := by rw [List.take_add_one, hBk]; simp
            rw [← hmap] at hr5
            have HR5 := Lib.hid hr5
            have HT5 := Lib.hid hT5
            have HB5' := Lib.hid hb5
            have HZ5 := Lib.hid hz5
            clear hr5 hT5 hb5 hz5 hmap hrowN hBk
            go_roundw
            case rel => exact ⟨k + 1, _, _, by omega, by simp, HB5', HR5.out, HT5.out, hbw5, HZ5.out, by omega⟩
            case measure => simp [intOf]; omega
      · obtain rfl : k = B.next.length := by omega
        have hfull : (B.next.take B.next.length).map (outRow c) = (withoutS B c).next := by simp [withoutS]
        rw [hfull] at hrows
        obtain ⟨an', cn', rfl, hRws⟩ := hrows.rws
        have q0 : wr.cell? ⟨Bo, 0, none⟩ = some (.int .i64 B.cells) := by unfold World.cell?; rw [hBox.out]; rfl
        have q1 : wr.cell? ⟨Bo, 1, none⟩ = some (.slice an' (withoutS B c).next.length cn') := by unfold World.cell?; rw [hBox.out]; rfl
        have q2 : wr.cell? ⟨Bo, 2, none⟩ = some (.slice ov B.turn.length cv) := by unfold World.cell?; rw [hBox.out]; rfl
        have z0 : wr.cell? ⟨w.heap.size + 1, 0, none⟩ = some (.int .i64 0) := by unfold World.cell?; rw [hz]; rfl
        have z1 : wr.cell? ⟨w.heap.size + 1, 1, none⟩ = some (.slice none 0 0) := by unfold World.cell?; rw [hz]; rfl
        have z2 : wr.cell? ⟨w.heap.size + 1, 2, none⟩ = some (.slice none 0 0) := by unfold World.cell?; rw [hz]; rfl
        have f0 : wr.frozen? ⟨w.heap.size + 1, 0, none⟩ = false := by unfold World.frozen?; rw [hz]; simp
        have f1 : wr.frozen? ⟨w.heap.size + 1, 1, none⟩ = false := by unfold World.frozen?; rw [hz]; simp
        have f2 : wr.frozen? ⟨w.heap.size + 1, 2, none⟩ = false := by unfold World.frozen?; rw [hz]; simp
        have HRw := Lib.hid hRws
        have HZ := Lib.hid hz
        have hno := own_type hrows.outer hz (by decide)
        have hnT := own_type hT hz (by decide)
        have HRR := Lib.hid hrows
        clear hfull hRws hz hrows
        go_wp2
        refine bodyPost_ret_by (v := .tuple #[.agg #[.int .i64 B.cells, .slice an' (withoutS B c).next.length cn', .slice ov B.turn.length cv], .int .i64 0]) (by rw [results_cell_tmp rfl]; go_simp) rfl ?_
        have hal : Alters (fun k => k = w.heap.size + 1) wr (((wr.setCell ⟨w.heap.size + 1, 0, none⟩ (.int .i64 B.cells)).setCell ⟨w.heap.size + 1, 1, none⟩ (.slice an' (withoutS B c).next.length cn')).setCell ⟨w.heap.size + 1, 2, none⟩ (.slice ov B.turn.length cv)) :=
          ⟨rfl, rfl, rfl, by simp [World.setCell], fun k _ hk => ((Below.heap_setCell _ _ _ _ hk).trans (Below.heap_setCell _ _ _ _ hk)).trans (Below.heap_setCell _ _ _ _ hk)⟩
        refine ⟨an', cn', ov, cv, ?_, ⟨?_, ?_⟩, ?_⟩
        · rfl
        · obtain ⟨a, cap, he, h⟩ := (HRR.out.alters hal (fun k hk => by rw [hk]; exact hno) (fun k hk v hv => by
            rw [hk]
            obtain ⟨i, hi⟩ := List.getElem?_of_mem hv
            exact own_type (HRR.out.own i v hi) HZ.out (by decide))).rws
          cases he
          exact h
        · obtain ⟨a, cap, he, h⟩ := (hT.alters hal (fun k hk => by rw [hk]; exact hnT)).ints
          cases he
          exact h
        · exact hbw.trans (hal.below hbw.size (fun k hk => by omega))
  · go_simp
    refine hK.out _ _ ⟨cell_alloc_keep hHeld.1 _, cell_alloc_keep hHeld.2 _⟩ (fun hS3 => ?_)
    clear hK K
    (try simp only [Act.put, List.setIfInBounds_toArray, List.set_cons_zero, List.set_cons_succ])
    refine wpAnyH_ready (rs := [4]) (by kernel_rfl) (by simp) ?_
    refine AllReadyH.cons (o := { dst := some 20, op := Op.call { callee := Callee.value (Operand.func 42), args := #[Operand.tmp 19], argTypes := #[29] }, type := 29, pos := "board.go:128", after := #[{ on := 3, ground := Ground.data }], guard := none }) rfl (fun K hK => ?_) AllReadyH.nil
    refine step_call rfl 42 _ _ #[.slice at_ B.turn.length ct] rfl rfl (enters_of Tryd.func42 (by kernel_rfl) rfl) ((hcl _ (by (repeat (first | exact Below.refl _ _ | assumption | refine below_alloc ?_ _ | refine Below.drew ?_ | refine below_drewN_ ?_ _ | refine below_step ?_ (by assumption))))).mono ?_)
    rintro e w2 ⟨v, rfl, hown, hb2⟩
    obtain ⟨ov, cv, rfl, _⟩ := OwnInts.places hown
    refine ⟨_, rfl, hK.out _ _ ⟨cell_keep hb2 hS3.1, cell_keep hb2 hS3.2⟩ (fun hS2 => ?_)⟩
    clear hK K
    (try simp only [Act.put, List.setIfInBounds_toArray, List.set_cons_zero, List.set_cons_succ])
    have hh2 : w2.heap[w1.heap.size]? = some (.cells #[.int .i64 0, .slice none 0 0, .slice none 0 0] 31 (0, 0)) := (hb2.block w1.heap.size (by show w1.heap.size < (World.alloc _ _).heap.size; rw [World.size_alloc]; omega)).trans (World.alloc_heap_new w1 _)
    rw [hs1] at hh2
    have hz0 : w2.cell? ⟨w.heap.size + 3, 0, none⟩ = some (.int .i64 0) := by unfold World.cell?; rw [hh2]; rfl
    have hz1 : w2.cell? ⟨w.heap.size + 3, 1, none⟩ = some (.slice none 0 0) := by unfold World.cell?; rw [hh2]; rfl
    have hz2 : w2.cell? ⟨w.heap.size + 3, 2, none⟩ = some (.slice none 0 0) := by unfold World.cell?; rw [hh2]; rfl
    have hf0 : w2.frozen? ⟨w.heap.size + 3, 0, none⟩ = false := by unfold World.frozen?; rw [hh2]; simp
    have hf1 : w2.frozen? ⟨w.heap.size + 3, 1, none⟩ = false := by unfold World.frozen?; rw [hh2]; simp
    have hf2 : w2.frozen? ⟨w.heap.size + 3, 2, none⟩ = false := by unfold World.frozen?; rw [hh2]; simp
    refine wpAnyH_take (i := 5) (oi := { dst := some 21, op := Op.build 31 #[(0, Operand.tmp 17), (2, Operand.tmp 20)], type := 31, pos := "board.go:128", after := #[{ on := 1, ground := Ground.data }, { on := 4, ground := Ground.data }], guard := none }) (v := ?_) rfl (by kernel_rfl) (by kernel_rfl) (by kernel_rfl) (fun _ _ _ h => h) (Or.inl ⟨by rfl, ?_⟩) (by assumption) ?_
    rotate_left
    · ((intro w hSw; (try dsimp only at hSw); go_simp); try with_reducible rfl)
    (try simp only [Act.put, List.setIfInBounds_toArray, List.set_cons_zero, List.set_cons_succ])
    refine wpAnyH_ready (rs := [7]) (by kernel_rfl) (by simp) ?_
    refine AllReadyH.cons (o := { dst := none, op := Op.store 31 (Operand.tmp 6) (Operand.tmp 21), type := 0, pos := "board.go:128", after := #[{ on := 6, ground := Ground.data }, { on := 5, ground := Ground.data }, { on := 4, ground := Ground.chain }, { on := 0, ground := Ground.phase }, { on := 1, ground := Ground.phase }, { on := 2, ground := Ground.phase }, { on := 3, ground := Ground.phase }, { on := 4, ground := Ground.phase }, { on := 5, ground := Ground.phase }, { on := 6, ground := Ground.phase }], guard := none }) rfl (fun K hK => ?_) AllReadyH.nil
    go_simp
    have hne : ∀ j (a : Addr), a.block = w.heap.size → ¬ (⟨w.heap.size + 3, j, none⟩ : Addr) = a := fun j a ha e => by have h := congrArg Addr.block e; dsimp only at h; omega
    have hb12 : Below w1.heap.size w1 w2 := below_step (below_alloc ((Below.refl _ w1).drew) _) hb2
    have hs2 := hb2.size
    have hX : (((w2.setCell ⟨w.heap.size + 3, 0, none⟩ (.int .i64 B.cells)).setCell ⟨w.heap.size + 3, 1, none⟩ (.slice none 0 0)).setCell ⟨w.heap.size + 3, 2, none⟩ (.slice ov B.turn.length cv)).heap[w.heap.size + 3]? = some (.cells #[.int .i64 B.cells, .slice none 0 0, .slice ov B.turn.length cv] 31 (0, 0)) := by
      simp [World.setCell, Array.getElem?_modify, hh2]
    have halX : Alters (fun k => k = w.heap.size + 3) w2 (((w2.setCell ⟨w.heap.size + 3, 0, none⟩ (.int .i64 B.cells)).setCell ⟨w.heap.size + 3, 1, none⟩ (.slice none 0 0)).setCell ⟨w.heap.size + 3, 2, none⟩ (.slice ov B.turn.length cv)) :=
      ⟨rfl, rfl, rfl, by simp [World.setCell], fun k _ hk => ((Below.heap_setCell _ _ _ _ hk).trans (Below.heap_setCell _ _ _ _ hk)).trans (Below.heap_setCell _ _ _ _ hk)⟩
    have hownX : OwnInts w.heap.size _ (.slice ov B.turn.length cv) B.turn := (OwnInts.mono hown (by show w.heap.size ≤ (World.alloc _ _).heap.size; rw [World.size_alloc]; omega)).alters halX (fun k hk e => by
      have h1 := (World.ownsRow.lt hown k e.symm).1
      have h1' : (World.alloc w1 _).heap.size ≤ k := h1
      rw [World.size_alloc] at h1'
      omega)
    have hk1X : Below w1.heap.size w1 _ := hb12.trans (halX.below hb12.size (fun k hk => by omega))
    have hBX := below_step hB1 hk1X
    refine hK.out _ _ ⟨(hk1X.cell (p := ⟨w.heap.size, 0, none⟩) (by show w.heap.size < _; omega)).trans k0, (hk1X.cell (p := ⟨w.heap.size, 2, none⟩) (by show w.heap.size < _; omega)).trans k2⟩ (fun _ => ?_)
    clear hK K
    (try simp only [Act.put, List.setIfInBounds_toArray, List.set_cons_zero, List.set_cons_succ])
    refine wpAnyH_done (by kernel_rfl) ?_ _
    have hBo : w.heap.size + 3 ≤ w.heap.size + 3 := Nat.le_refl _
    generalize ((w2.setCell ⟨w.heap.size + 3, 0, none⟩ (.int .i64 B.cells)).setCell ⟨w.heap.size + 3, 1, none⟩ (.slice none 0 0)).setCell ⟨w.heap.size + 3, 2, none⟩ (.slice ov B.turn.length cv) = X at hX hBX hownX hk1X ⊢
    generalize hBe : w.heap.size + 3 = Bo at hX ⊢
    rw [hBe] at hBo
    have hBo : w.heap.size + 3 ≤ Bo := by omega
    clear hown hb2 hS2 hS3 hHeld hb12 hs2 hz0 hz1 hz2 hf0 hf1 hf2 hh2 hBe
    clear hcl
    have kX1 := cell_keep hk1X k1
    have kz : X.heap[w.heap.size + 1]? = _ := (hk1X.block _ (by omega)).trans k4
    have hXs : Bo < X.heap.size := (Array.getElem?_eq_some_iff.1 hX).1
    clear k0 k1 k2 k4 hk1X hs1
    go_wp2
    go_loopw [25] (fun i wr => ∃ (k : Nat) (on : Value) (vs : List Value), k ≤ B.next.length ∧ i = .int .i64 k ∧ Hid (wr.heap[Bo]? = some (.cells #[.int .i64 B.cells, on, .slice ov B.turn.length cv] 31 (0, 0))) ∧ RowsN w.heap.size wr on ((B.next.take k).map (outRow c)) vs ∧ OwnInts w.heap.size wr (.slice ov B.turn.length cv) B.turn ∧ Below w.heap.size w wr ∧ wr.heap[w.heap.size + 1]? = some (.cells #[.int .i64 0, .slice none 0 0, .slice none 0 0] 31 (0, 0)) ∧ X.heap.size ≤ wr.heap.size)
      (fun i _ => B.next.length - (intOf i).toNat)
    case atStart => exact ⟨0, _, [], Nat.zero_le _, rfl, Lib.hid hX, RowsN.nil _ _, hownX, hBX, kz, Nat.le_refl _⟩
    case round =>
      obtain ⟨k, on, vs, hk, rfl, hBox, hrows, hT, hbw, hz, hsz⟩ := hrel
      by_cases hlt : k < B.next.length
      · obtain ⟨b, off, aj, cj, hab, hbN, hcr, hI⟩ := (hH.up hN hbw).1.at_ hlt
        subst hab
        have hrl := hB.row k hlt
        generalize hr : B.next[k]?.getD [] = r at hcr hI hrl
        have hcl2 := clone_any aj cj N r wr (by omega) (by omega) hI
        have HR := Lib.hid hr
        have HL := Lib.hid hrl
        clear hr hrl
        go_wp2_with fail
        refine hcl2.mono ?_
        clear hcl2
        rintro e w4 ⟨v, rfl, hown4, hb4⟩
        rcases hown4.form with ⟨rfl, h0⟩ | ⟨G4, cap4, rfl, hG41, hG42⟩
        · have := HL.out; rw [h0] at this; simp at this; omega
        have hbw4 := below_step hbw hb4
        have hs4 := hb4.size
        have hrows4 := hrows.alters (S := fun _ => False) (Alters.of_below hb4) (fun _ h => h.elim) (fun _ h => h.elim)
        have hT4 := hT.alters (S := fun _ => False) (Alters.of_below hb4) (fun _ h => h.elim)
        have hz4 := (hb4.block (w.heap.size + 1) (by omega)).trans hz
        have hBox4 := Lib.hid ((hb4.block Bo (by omega)).trans hBox.out)
        have hrlen : r.length ≤ 64 := by have := HL.out; omega
        have hGo : ¬ some G4 = on.ownBlock := fun e => by have := (World.ownsRow.lt hrows.outer G4 e.symm).2; omega
        have hGv : ∀ v ∈ vs, ¬ some G4 = v.ownBlock := fun v hv e => by
          obtain ⟨i, hi⟩ := List.getElem?_of_mem hv
          have := (World.ownsRow.lt (hrows.own i v hi) G4 e.symm).2; omega
        have hGT : ¬ some G4 = (Value.slice ov B.turn.length cv).ownBlock := fun e => by have := (World.ownsRow.lt hT G4 e.symm).2; omega
        have hGB : ¬ Bo = G4 := by omega
        have hGz : ¬ w.heap.size + 1 = G4 := by omega
        have hGw : w.heap.size ≤ G4 := by omega
        have hown4' : w.heap.size ≤ wr.heap.size := hbw.size
        have hXw4 : X.heap.size ≤ w4.heap.size := by omega
        clear hBox hrows hT hz hb4 hI hcr
        go_wp2
        go_loopw [33] (fun i wr' => ∃ t : Nat, t ≤ r.length ∧ i = .int .i64 t ∧ OwnInts wr.heap.size wr' (.slice (some ⟨G4, 0, none⟩) r.length cap4) (outTo c r t) ∧ Alters (fun k => k = G4) w4 wr')
          (fun i _ => r.length - (intOf i).toNat)
        case atStart => exact ⟨0, Nat.zero_le _, rfl, hown4, Alters.refl _ _⟩
        case round =>
          obtain ⟨t, ht, rfl, hownt, halt⟩ := hrel
          by_cases htn : t < r.length
          · have hol := outTo_len c r t
            obtain ⟨hct, hft⟩ := OwnInts.cellAt hownt (j := t) (by omega)
            rw [outTo_later c r t t (Nat.le_refl t)] at hct
            generalize hy : r[t]?.getD 0 = y at hct
            have HY := Lib.hid hy
            have HOL := Lib.hid hol
            clear hy hol
            by_cases h1 : (t : Int) = c
            · have HM := Lib.hid (by rw [outTo, if_pos (.inl h1)] : outTo c r (t + 1) = (outTo c r t).set t (-1))
              have h1' : ((t : Int) == c) = true := by simpa using h1
              have h1'' : decide ((t : Int) = c) = true := by simpa using h1
              clear h1
              go_wp2
              go_roundw
              case rel => exact ⟨t + 1, by omega, by simp, by rw [HM.out]; exact hownt.set t (-1), halt.trans ⟨rfl, rfl, rfl, by simp [World.setCell], fun k _ hk => Below.heap_setCell _ _ _ _ hk⟩⟩
              case measure => simp [intOf]; omega
            · have h1' : ((t : Int) == c) = false := by simpa using h1
              have h1'' : decide ((t : Int) = c) = false := by simpa using h1
              by_cases h2 : y = c
              · have HM := Lib.hid (by rw [outTo, if_pos (.inr (by rw [HY.out]; exact h2))] : outTo c r (t + 1) = (outTo c r t).set t (-1))
                have h2' : (y == c) = true := by simpa using h2
                have h2'' : decide (y = c) = true := by simpa using h2
                clear h1 h2
                go_wp2
                go_roundw
                case rel => exact ⟨t + 1, by omega, by simp, by rw [HM.out]; exact hownt.set t (-1), halt.trans ⟨rfl, rfl, rfl, by simp [World.setCell], fun k _ hk => Below.heap_setCell _ _ _ _ hk⟩⟩
                case measure => simp [intOf]; omega
              · have HM := Lib.hid (by rw [outTo, if_neg (by rw [HY.out]; rintro (h | h); exact h1 h; exact h2 h)] : outTo c r (t + 1) = outTo c r t)
                have h2' : (y == c) = false := by simpa using h2
                have h2'' : decide (y = c) = false := by simpa using h2
                clear h1 h2
                go_wp2
                go_roundw
                case rel => exact ⟨t + 1, by omega, by simp, by rw [HM.out]; exact hownt, halt⟩
                case measure => simp [intOf]; omega
          · obtain rfl : t = r.length := by omega
            have hrowsN := hrows4.alters halt (fun k hk => by rw [hk]; exact hGo) (fun k hk v hv => by rw [hk]; exact hGv v hv)
            have hTN := hT4.alters halt (fun k hk => by rw [hk]; exact hGT)
            have hzN := (halt.block _ (Array.getElem?_eq_some_iff.1 hz4).1 hGz).trans hz4
            have hBoxN := (halt.block _ (Array.getElem?_eq_some_iff.1 hBox4.out).1 hGB).trans hBox4.out
            have hbwN := hbw4.trans (halt.below hbw4.size (fun k hk => by omega))
            have hvN : OwnInts w.heap.size wr (.slice (some ⟨G4, 0, none⟩) r.length cap4) (outRow c r) := OwnInts.mono hownt hown4'
            have hcB : wr.cell? ⟨Bo, 1, none⟩ = some on := by unfold World.cell?; rw [hBoxN]; rfl
            have hBlt : Bo < wr.heap.size := (Array.getElem?_eq_some_iff.1 hBoxN).1
            have hszN := halt.size
            have hlenN : ((B.next.take k).map (outRow c)).length = k := by simp; omega
            have hrowsA := hrowsN.alters (S := fun _ => False) (Alters.of_below ((Below.refl _ wr).alloc (Nat.le_refl _) (.cells #[.slice (some ⟨G4, 0, none⟩) r.length cap4] 29))) (fun _ h => h.elim) (fun _ h => h.elim)
            have hvA := hvN.alters (S := fun _ => False) (Alters.of_below ((Below.refl _ wr).alloc (Nat.le_refl _) (.cells #[.slice (some ⟨G4, 0, none⟩) r.length cap4] 29))) (fun _ h => h.elim)
            have HRA := Lib.hid hrowsA
            have HVA := Lib.hid hvA
            have HLN := Lib.hid hlenN
            have HRO := Lib.hid (by have := hrowsA.outer; rwa [hlenN] at this : (wr.alloc (.cells #[.slice (some ⟨G4, 0, none⟩) r.length cap4] 29)).ownsRow w.heap.size 29 1 on k vs)
            have HBN := Lib.hid hBoxN
            have HTN := Lib.hid hTN
            obtain ⟨i0, hi, hz0, hz1, hz2⟩ := info_parts info_row
            clear hrowsA hvA hlenN hBoxN hrowsN hTN hvN hownt
            go_wp2_with (at_builtin; go_loud (refine wpList_append_own_at _ rfl _ _ 28 rfl w.heap.size 29 i0 (.slice none 0 0) 1 24 Tryd.underlying28 hi hz0 hz1 hz2 rfl (by decide) on k vs rfl HRO.out ⟨wr.heap.size, 0, none⟩ 1 1 [.slice (some ⟨G4, 0, none⟩) r.length cap4] rfl rfl (cell_one_new _ _ _) (by simp [Value.oneCell']) (by unfold maxLen; omega) (by omega) (by have := hbwN.size; simp; omega) ?_; intro v' w5 hown5 hgrow5 _ hat5; obtain ⟨g', cap', rfl⟩ := ownsRow_succ hown5; have hb5 := (hgrow5.block Bo (by simp; omega) (own_type HRA.out.outer ((Below.heap_alloc _ _ _ hBlt).trans HBN.out) (by decide))).trans ((Below.heap_alloc _ _ _ hBlt).trans HBN.out); have hc5 : w5.cell? ⟨Bo, 1, none⟩ = some on := by { unfold World.cell?; rw [hb5]; rfl }; have hf5 : w5.frozen? ⟨Bo, 1, none⟩ = false := by { unfold World.frozen?; rw [hb5]; simp }; have HB5 := Lib.hid hb5; clear hb5))
            have hrowN := RowsN.append HRA.out HVA.out (by rw [HLN.out]; exact hown5) hgrow5
            have hBne := own_type hrowN.outer HB5.out (by decide)
            have haB : Alters (fun k => k = Bo) w5 (w5.setCell ⟨Bo, 1, none⟩ (.slice (some ⟨g', 0, none⟩) (k + 1) cap')) := ⟨rfl, rfl, rfl, by simp [World.setCell], fun k _ hk => Below.heap_setCell _ _ _ _ hk⟩
            have hBk : B.next[k]? = some r := by rw [← HR.out]; simp [hlt]
            have hall : Alters (fun k => k = Bo ∨ some k = on.ownBlock) wr (w5.setCell ⟨Bo, 1, none⟩ (.slice (some ⟨g', 0, none⟩) (k + 1) cap')) :=
              ((Alters.of_below ((Below.refl _ wr).alloc (Nat.le_refl _) _)).trans ((Alters.of_grown hgrow5).mono (fun _ _ h => .inr h))).trans (haB.mono (fun _ _ h => .inl h))
            have hlo2 : ∀ k, some k = on.ownBlock → w.heap.size ≤ k := fun k hk => (World.ownsRow.lt HRA.out.outer k hk.symm).1
            have hz5 := (hall.block _ (Array.getElem?_eq_some_iff.1 hzN).1 (by
              rintro (h | h)
              · omega
              · exact own_type HRA.out.outer ((Below.heap_alloc _ _ _ (Array.getElem?_eq_some_iff.1 hzN).1).trans hzN) (by decide) h)).trans hzN
            have hT5 := HTN.out.alters hall (fun k hk => by
              rcases hk with rfl | hk
              · exact own_type HTN.out HBN.out (by decide)
              · exact HRA.out.apart (HTN.out.alters (S := fun _ => False) (Alters.of_below ((Below.refl _ wr).alloc (Nat.le_refl _) _)) (fun _ h => h.elim)) hk)
            have hr5 := hrowN.alters haB (fun k hk => by rw [hk]; exact hBne) (fun k hk v hv => by
              rw [hk]
              obtain ⟨i, hi⟩ := List.getElem?_of_mem hv
              exact own_type (hrowN.own i v hi) HB5.out (by decide))
            have hb5 : (w5.setCell ⟨Bo, 1, none⟩ (.slice (some ⟨g', 0, none⟩) (k + 1) cap')).heap[Bo]? = some (.cells #[.int .i64 B.cells, .slice (some ⟨g', 0, none⟩) (k + 1) cap', .slice ov B.turn.length cv] 31 (0, 0)) := by
              simp [World.setCell, Array.getElem?_modify, HB5.out]
            have hbw5 := hbwN.trans (hall.below hbwN.size (fun k hk => by
              rcases hk with rfl | hk
              · omega
              · exact hlo2 k hk))
            have hsz5 := hall.size
            have hmap : (B.next.take (k + 1)).map (outRow c) = (B.next.take k).map (outRow c) ++ [outRow c r] := by rw [List.take_add_one, hBk]; simp
            rw [← hmap] at hr5
            have HR5 := Lib.hid hr5
            have HT5 := Lib.hid hT5
            have HB5' := Lib.hid hb5
            have HZ5 := Lib.hid hz5
            clear hr5 hT5 hb5 hz5 hmap hrowN hBk
            go_roundw
            case rel => exact ⟨k + 1, _, _, by omega, by simp, HB5', HR5.out, HT5.out, hbw5, HZ5.out, by omega⟩
            case measure => simp [intOf]; omega
      · obtain rfl : k = B.next.length := by omega
        have hfull : (B.next.take B.next.length).map (outRow c) = (withoutS B c).next := by simp [withoutS]
        rw [hfull] at hrows
        obtain ⟨an', cn', rfl, hRws⟩ := hrows.rws
        have q0 : wr.cell? ⟨Bo, 0, none⟩ = some (.int .i64 B.cells) := by unfold World.cell?; rw [hBox.out]; rfl
        have q1 : wr.cell? ⟨Bo, 1, none⟩ = some (.slice an' (withoutS B c).next.length cn') := by unfold World.cell?; rw [hBox.out]; rfl
        have q2 : wr.cell? ⟨Bo, 2, none⟩ = some (.slice ov B.turn.length cv) := by unfold World.cell?; rw [hBox.out]; rfl
        have z0 : wr.cell? ⟨w.heap.size + 1, 0, none⟩ = some (.int .i64 0) := by unfold World.cell?; rw [hz]; rfl
        have z1 : wr.cell? ⟨w.heap.size + 1, 1, none⟩ = some (.slice none 0 0) := by unfold World.cell?; rw [hz]; rfl
        have z2 : wr.cell? ⟨w.heap.size + 1, 2, none⟩ = some (.slice none 0 0) := by unfold World.cell?; rw [hz]; rfl
        have f0 : wr.frozen? ⟨w.heap.size + 1, 0, none⟩ = false := by unfold World.frozen?; rw [hz]; simp
        have f1 : wr.frozen? ⟨w.heap.size + 1, 1, none⟩ = false := by unfold World.frozen?; rw [hz]; simp
        have f2 : wr.frozen? ⟨w.heap.size + 1, 2, none⟩ = false := by unfold World.frozen?; rw [hz]; simp
        have HRw := Lib.hid hRws
        have HZ := Lib.hid hz
        have hno := own_type hrows.outer hz (by decide)
        have hnT := own_type hT hz (by decide)
        have HRR := Lib.hid hrows
        clear hfull hRws hz hrows
        go_wp2
        refine bodyPost_ret_by (v := .tuple #[.agg #[.int .i64 B.cells, .slice an' (withoutS B c).next.length cn', .slice ov B.turn.length cv], .int .i64 0]) (by rw [results_cell_tmp rfl]; go_simp) rfl ?_
        have hal : Alters (fun k => k = w.heap.size + 1) wr (((wr.setCell ⟨w.heap.size + 1, 0, none⟩ (.int .i64 B.cells)).setCell ⟨w.heap.size + 1, 1, none⟩ (.slice an' (withoutS B c).next.length cn')).setCell ⟨w.heap.size + 1, 2, none⟩ (.slice ov B.turn.length cv)) :=
          ⟨rfl, rfl, rfl, by simp [World.setCell], fun k _ hk => ((Below.heap_setCell _ _ _ _ hk).trans (Below.heap_setCell _ _ _ _ hk)).trans (Below.heap_setCell _ _ _ _ hk)⟩
        refine ⟨an', cn', ov, cv, ?_, ⟨?_, ?_⟩, ?_⟩
        · rfl
        · obtain ⟨a, cap, he, h⟩ := (HRR.out.alters hal (fun k hk => by rw [hk]; exact hno) (fun k hk v hv => by
            rw [hk]
            obtain ⟨i, hi⟩ := List.getElem?_of_mem hv
            exact own_type (HRR.out.own i v hi) HZ.out (by decide))).rws
          cases he
          exact h
        · obtain ⟨a, cap, he, h⟩ := (hT.alters hal (fun k hk => by rw [hk]; exact hnT)).ints
          cases he
          exact h
        · exact hbw.trans (hal.below hbw.size (fun k hk => by omega))
end Go.Proofs.YtcpjkilnbhfpjaaDoor
