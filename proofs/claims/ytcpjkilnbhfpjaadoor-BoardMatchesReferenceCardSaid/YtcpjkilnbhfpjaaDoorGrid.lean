/-
  Grid of the package board.
-/
import Derived.Test.YtcpjkilnbhfpjaaDoorBld
import Derived.Test.YtcpjkilnbhfpjaaDoorCellAt
import Derived.StillTailTactics
namespace Go.Proofs.YtcpjkilnbhfpjaaDoor
open Go Go.RowKit Go.Shelf

def dxs : List Int := [0, 1, 1, 1, 0, -1, -1, -1]
def dys : List Int := [-1, -1, 0, 1, 1, 1, 0, -1]
def raysL : List Int := [0, -1, 1, -1, 1, 0, 1, 1, 0, 1, -1, 1, -1, 0, -1, -1]
/-- The package's variable holds the rays. -/
def RaysIn (w : World) : Prop := ∀ j, j < 16 → w.cell? ⟨0, j, none⟩ = some (.int .i64 (raysL[j]?.getD 0))
def gridEnt (W H d c : Nat) : Int := cellS W H (((c % W : Nat) : Int) + dxs[d]?.getD 0) (((c / W : Nat) : Int) + dys[d]?.getD 0)
def gridRow (W H d : Nat) : List Int := (List.range (W * H)).map (gridEnt W H d)
def gridTurn (d : Nat) : Int := (((d + 4) % 8 : Nat) : Int)
def gridS (W H : Nat) : Brd := { cells := ((W * H : Nat) : Int), next := (List.range 8).map (gridRow W H), turn := (List.range 8).map gridTurn }

/-- The row behind k rounds. -/
def gTo (f : Nat → Int) (n : Nat) : Nat → List Int
  | 0 => List.replicate n 0
  | k + 1 => (gTo f n k).set k (f k)
theorem gTo_len (f : Nat → Int) (n k : Nat) : (gTo f n k).length = n := by
  induction k with
  | zero => simp [gTo]
  | succ k ih => simp [gTo, ih]
theorem gTo_get (f : Nat → Int) (n : Nat) : ∀ k, k ≤ n → ∀ j, (gTo f n k)[j]? = if j < n then some (if j < k then f j else 0) else none
  | 0, _, j => by simp [gTo, List.getElem?_replicate]
  | k + 1, h, j => by
    have ih := gTo_get f n k (by omega)
    unfold gTo
    by_cases e : k = j
    · subst e
      rw [List.getElem?_set_self (by rw [gTo_len]; omega), if_pos (by omega), if_pos (by omega)]
    · rw [List.getElem?_set_ne e, ih]
      by_cases hj : j < n
      · rw [if_pos hj, if_pos hj]
        by_cases hk : j < k
        · rw [if_pos hk, if_pos (by omega)]
        · rw [if_neg hk, if_neg (by omega)]
      · rw [if_neg hj, if_neg hj]
theorem gTo_full (f : Nat → Int) (n : Nat) : gTo f n n = (List.range n).map f := by
  apply List.ext_getElem?
  intro j
  rw [gTo_get f n n (Nat.le_refl _) j]
  by_cases hj : j < n
  · rw [if_pos hj, if_pos hj]; simp [hj]
  · rw [if_neg hj]; simp [hj]

def raysV : Value := .agg #[.int .i64 0, .int .i64 (-1), .int .i64 1, .int .i64 (-1), .int .i64 1, .int .i64 0, .int .i64 1, .int .i64 1, .int .i64 0, .int .i64 1, .int .i64 (-1), .int .i64 1, .int .i64 (-1), .int .i64 0, .int .i64 (-1), .int .i64 (-1)]
theorem below_alloc' {w w5 : World} {o : Obj} (h : (w.alloc o).grownBy w5 none) : Below w.heap.size w w5 := ⟨h.os, h.tape, h.output, Nat.le_trans (by rw [World.size_alloc]; omega) h.size, fun k hk => (h.block k (by rw [World.size_alloc]; omega) (by simp)).trans (Below.heap_alloc _ _ _ hk)⟩
theorem OwnInts.lt' {n : Nat} {W : World} {g k cap : Nat} {l : List Int} (h : OwnInts n W (.slice (some ⟨g, 0, none⟩) k cap) l) (_ : 0 < l.length) : g < W.heap.size := (World.ownsRow.lt h g rfl).2
theorem alters_drew (S : Nat → Prop) (w : World) : Alters S w w.drew := ⟨rfl, rfl, rfl, Nat.le_refl _, fun _ _ _ => rfl⟩
theorem idx_rays (d : Nat) (h : d < 8) (W : World) : (Sem.run Tryd.prog (Instr.index 73 raysV (.int .i64 d)) W) = Result.ok (.agg #[.int .i64 (dxs[d]?.getD 0), .int .i64 (dys[d]?.getD 0)]) W := by
  have : d = 0 ∨ d = 1 ∨ d = 2 ∨ d = 3 ∨ d = 4 ∨ d = 5 ∨ d = 6 ∨ d = 7 := by omega
  rcases this with rfl | rfl | rfl | rfl | rfl | rfl | rfl | rfl <;> (show @Eq (Result Value) _ _; kernel_rfl)
theorem rays_in (d : Nat) (h : d < 8) : (-1 ≤ dxs[d]?.getD 0 ∧ dxs[d]?.getD 0 ≤ 1) ∧ (-1 ≤ dys[d]?.getD 0 ∧ dys[d]?.getD 0 ≤ 1) := by
  match d, h with
  | 0, _ => decide
  | 1, _ => decide
  | 2, _ => decide
  | 3, _ => decide
  | 4, _ => decide
  | 5, _ => decide
  | 6, _ => decide
  | 7, _ => decide

set_option maxRecDepth 100000 in
set_option maxHeartbeats 2000000 in
theorem grid_any (W H : Nat) (h1 : 1 ≤ W) (h2 : 1 ≤ H) (h3 : W * H ≤ 64) (w : World) (hR : RaysIn w) :
    Calls Tryd.prog 32 #[.int .i64 W, .int .i64 H] w fun e W' => ∃ an' cn' at' ct', e = .returned (.tuple #[(gridS W H).val an' cn' at' ct', .int .i64 0]) ∧ Held W'.heap.size W' an' at' (gridS W H) ∧ Below w.heap.size w W' := by
  have hW64 : W ≤ 64 := Nat.le_trans (Nat.le_mul_of_pos_right W h2) h3
  have hH64 : H ≤ 64 := Nat.le_trans (Nat.le_mul_of_pos_left H h1) h3
  have g1 : decide ((W : Int) < 1) = false := by simp; omega
  have g2 : decide ((H : Int) < 1) = false := by simp; omega
  have g3 : decide ((64 : Int) / (H : Int) < (W : Int)) = false := by
    have h5 : W ≤ 64 / H := (Nat.le_div_iff_mul_le h2).2 h3
    have h6 : ((64 : Int) / (H : Int)) = ((64 / H : Nat) : Int) := by rw [Int.natCast_ediv]; rfl
    rw [h6]; simp; omega
  obtain ⟨n, hn⟩ : ∃ n, n = W * H := ⟨_, rfl⟩
  have hn1 : 1 ≤ n := by rw [hn]; exact Nat.mul_pos h1 h2
  have hn64 : n ≤ 64 := by omega
  have wm : IntKind.i64.wrap ((W : Int) * (H : Int)) = (n : Int) := by
    rw [hn, Int.natCast_mul]; exact IntWalk.i64_in _ (by rw [← Int.natCast_mul]; omega)
  have hlw : 0 < w.heap.size := World.block_lt_of_cell? w ⟨0, 0, none⟩ (hR 0 (by omega))
  have hcell : ∀ j, j < 16 → ((w.alloc (.cells #[.int .i64 0, .slice none 0 0, .slice none 0 0] 31)).alloc (.cells #[.int .i64 n, .slice none 0 0, .slice none 0 0] 31)).cell? ⟨0, j, none⟩ = some (.int .i64 (raysL[j]?.getD 0)) := fun j hj => cell_alloc_keep (cell_alloc_keep (hR j hj) _) _
  have c0 := hcell 0 (by omega)
  have c1 := hcell 1 (by omega)
  have c2 := hcell 2 (by omega)
  have c3 := hcell 3 (by omega)
  have c4 := hcell 4 (by omega)
  have c5 := hcell 5 (by omega)
  have c6 := hcell 6 (by omega)
  have c7 := hcell 7 (by omega)
  have c8 := hcell 8 (by omega)
  have c9 := hcell 9 (by omega)
  have c10 := hcell 10 (by omega)
  have c11 := hcell 11 (by omega)
  have c12 := hcell 12 (by omega)
  have c13 := hcell 13 (by omega)
  have c14 := hcell 14 (by omega)
  have c15 := hcell 15 (by omega)
  simp [raysL] at c0 c1 c2 c3 c4 c5 c6 c7 c8 c9 c10 c11 c12 c13 c14 c15
  have HNE := Lib.hid hn
  clear hn hcell
  go_enter Tryd.func32, Tryd.ntmps32
  go_wp2_with fail
  obtain ⟨w1, hw1⟩ : ∃ w1, (w.alloc (.cells #[.int .i64 0, .slice none 0 0, .slice none 0 0] 31)).alloc (.cells #[.int .i64 n, .slice none 0 0, .slice none 0 0] 31) = w1 := ⟨_, rfl⟩
  have hs1 : w1.heap.size = w.heap.size + 1 + 1 := by rw [← hw1]; simp
  have hB1 : Below w.heap.size w w1 := by rw [← hw1]; (repeat (first | exact Below.refl _ _ | assumption | refine below_alloc ?_ _ | refine Below.drew ?_ | refine below_drewN_ ?_ _ | refine below_step ?_ (by assumption)))
  have hbld : Bld w.heap.size (w.heap.size + 1) n w1 (.slice none 0 0) (.slice none 0 0) ((List.range 0).map (gridRow W H)) ((List.range 0).map gridTurn) [] :=
    ⟨by rw [← hw1, ← World.size_alloc w (.cells #[.int .i64 0, .slice none 0 0, .slice none 0 0] 31)]; exact World.alloc_heap_new _ _, RowsN.nil _ _, World.ownsRow_nil _ _ _ _, fun k hk => by simp [Value.ownBlock] at hk⟩
  have hz := Lib.hid (by rw [← hw1, Below.heap_alloc _ _ _ (by simp)]; exact World.alloc_heap_new _ _ : w1.heap[w.heap.size]? = some (.cells #[.int .i64 0, .slice none 0 0, .slice none 0 0] 31 (0, 0)))
  rw [hw1]
  have HS1 := Lib.hid hs1
  clear hw1 c0 c1 c2 c3 c4 c5 c6 c7 c8 c9 c10 c11 c12 c13 c14 c15 hs1 hR wm g1 g2 g3
  go_loopw [29] (fun i wr => ∃ (d : Nat) (on ot : Value) (vs : List Value), d ≤ 8 ∧ i = .int .i64 d ∧ Bld w.heap.size (w.heap.size + 1) n wr on ot ((List.range d).map (gridRow W H)) ((List.range d).map gridTurn) vs ∧ Below w.heap.size w wr ∧ Hid (wr.heap[w.heap.size]? = some (.cells #[.int .i64 0, .slice none 0 0, .slice none 0 0] 31 (0, 0))))
    (fun i _ => 8 - (intOf i).toNat)
  case atStart => exact ⟨0, _, _, _, by omega, rfl, hbld, hB1, hz⟩
  case round =>
    obtain ⟨d, on, ot, vs, hd8, rfl, hb, hbw, hzr⟩ := hrel
    by_cases hlt : d < 8
    · have hcl := hb.cell.1
      have hidx := idx_rays d hlt wr
      obtain ⟨⟨x1, x2⟩, y1, y2⟩ := rays_in d hlt
      have hent : ∀ c, gridEnt W H d c = cellS W H (((c % W : Nat) : Int) + dxs[d]?.getD 0) (((c / W : Nat) : Int) + dys[d]?.getD 0) := fun c => rfl
      generalize dxs[d]?.getD 0 = rx at hidx x1 x2 hent
      generalize dys[d]?.getD 0 = ry at hidx y1 y2 hent
      unfold raysV at hidx
      have hbs := hb.lt
      obtain ⟨i0, hi, hz0, hz1, hz2⟩ := info_parts info_int
      have HENT := Lib.hid hent
      clear hent
      go_wp2_with (at_make; go_loud (refine wpList_make_full _ rfl _ _ 29 rfl w.heap.size 3 i0 (.int .i64 0) 1 Tryd.underlying29 hi hz0 hz1 .i64 .i64 n n n rfl rfl rfl rfl (by rw [hz2]; omega) (by unfold maxLen; omega) (by have := hbw.size; simp; omega) ?_; intro w5 hown5 hgrow5))
      have hrl : wr.heap.size < (wr.alloc (.cells #[.int .i64 rx, .int .i64 ry] 72)).heap.size := by rw [World.size_alloc]; omega
      have hB5 : Below wr.heap.size wr w5 := below_alloc' hgrow5
      have ha5 : w5.cell? ⟨wr.heap.size, 0, none⟩ = some (.int .i64 rx) ∧ w5.cell? ⟨wr.heap.size, 1, none⟩ = some (.int .i64 ry) := by
        have h0 := (hgrow5.block wr.heap.size hrl (by simp)).trans (World.alloc_heap_new wr (.cells #[.int .i64 rx, .int .i64 ry] 72))
        constructor
        · unfold World.cell?; rw [h0]; rfl
        · unfold World.cell?; rw [h0]; rfl
      have hown : OwnInts w.heap.size w5 (.slice (some ⟨wr.heap.size + 1, 0, none⟩) n n) (gTo (gridEnt W H d) n 0) := by
        have e : madeCells (Value.int .i64 0).cells (n * 1) = (List.replicate n (Value.int .i64 0)).toArray := by
          rw [Nat.mul_one]
          apply Array.ext'
          rw [show (Value.int .i64 0).cells = #[Value.int .i64 0] from rfl, toList_madeCells_one]
        rw [e] at hown5
        simpa [OwnInts, gTo] using hown5
      have hb5 := hb.below hB5
      have hbw5 := below_step hbw hB5
      have hz5 := Lib.hid ((hB5.block w.heap.size (by omega)).trans hzr.out)
      obtain ⟨a0, a1⟩ := ha5
      have HS5 := Lib.hid hB5.size
      have H1 := Lib.hid (fun k (hk : some k = on.ownBlock) => (hb.own_on hk).2)
      have H2 := Lib.hid (fun k (hk : some k = ot.ownBlock) => (hb.own_ot hk).2)
      have H3 := Lib.hid (fun v (hv : v ∈ vs) k (hk : some k = v.ownBlock) => (hb.own_vs hv hk).2)
      clear hown5 hgrow5 hrl hcl hidx hb hbw hzr
      have hGR : ¬ wr.heap.size = wr.heap.size + 1 := by omega
      have hG5 : wr.heap.size + 1 < w5.heap.size := (OwnInts.lt' hown (by simp [gTo_len]; omega))
      have hGlo : w.heap.size < wr.heap.size := by omega
      have hGhi : Hid (∀ k, k < wr.heap.size → ¬ k = wr.heap.size + 1) := Lib.hid (fun k hk => by omega)
      have HS5' := HS5.out
      have hG1 : Hid (wr.heap.size + 1 = wr.heap.size + 1) := Lib.hid rfl
      clear hB5
      generalize wr.heap.size = R at *
      have hGlo2 : w.heap.size < R + 1 := by omega
      generalize hG : R + 1 = G at hown hGR hG5 hGhi hGlo2 ⊢
      have HG := Lib.hid hG
      clear hG
      have hW0 : ((W : Int) == 0) = false := by simp; omega
      have hW0' : decide ((W : Int) = 0) = false := by simp; omega
      go_loopw [38] (fun i wi => ∃ c : Nat, c ≤ n ∧ i = .int .i64 c ∧ OwnInts w.heap.size wi (.slice (some ⟨G, 0, none⟩) n n) (gTo (gridEnt W H d) n c) ∧ Alters (fun k => k = G) w5 wi)
        (fun i _ => n - (intOf i).toNat)
      case atStart => exact ⟨0, Nat.zero_le _, rfl, hown, Alters.refl _ _⟩
      case round =>
        obtain ⟨c, hcn, rfl, howni, hali⟩ := hrel
        by_cases hcl : c < n
        · have hRlt : R < w5.heap.size := World.block_lt_of_cell? w5 _ a0
          have e0 : wr.cell? ⟨R, 0, none⟩ = some (.int .i64 rx) := (World.cell?_of_block (hali.block R hRlt hGR)).trans a0
          have e1 : wr.cell? ⟨R, 1, none⟩ = some (.int .i64 ry) := (World.cell?_of_block (hali.block R hRlt hGR)).trans a1
          obtain ⟨hcc, hfc⟩ := howni.cellAt (j := c) (by rw [gTo_len]; exact hcl)
          have hWn : ¬ W = 0 := by omega
          have m0 : 0 ≤ (c : Int) % (W : Int) := Int.emod_nonneg _ (by omega)
          have m1 : (c : Int) % (W : Int) < W := Int.emod_lt_of_pos _ (by omega)
          have q0 : 0 ≤ (c : Int) / (W : Int) := Int.ediv_nonneg (by omega) (by omega)
          have q1 : (c : Int) / (W : Int) ≤ c := Int.ediv_le_self _ (by omega)
          have HM := Lib.hid (by rw [gTo, HENT.out, Int.natCast_emod, Int.natCast_ediv] : gTo (gridEnt W H d) n (c + 1) = (gTo (gridEnt W H d) n c).set c (cellS W H ((c : Int) % (W : Int) + rx) ((c : Int) / (W : Int) + ry)))
          have f1 : (c : Int).tmod (W : Int) = (c : Int) % (W : Int) := Int.tmod_eq_emod_of_nonneg (by omega)
          have f2 : (c : Int).tdiv (W : Int) = (c : Int) / (W : Int) := Int.tdiv_eq_ediv_of_nonneg (by omega)
          have f3 : IntKind.i64.wrap ((c : Int) % (W : Int) + rx) = (c : Int) % (W : Int) + rx := IntWalk.i64_in _ (by omega)
          have f4 : IntKind.i64.wrap ((c : Int) / (W : Int) + ry) = (c : Int) / (W : Int) + ry := IntWalk.i64_in _ (by omega)
          have f5 : IntKind.i64.wrap ((c : Int) % (W : Int)) = (c : Int) % (W : Int) := IntWalk.i64_in _ (by omega)
          have f6 : IntKind.i64.wrap ((c : Int) / (W : Int)) = (c : Int) / (W : Int) := IntWalk.i64_in _ (by omega)
          generalize hmx : (c : Int) % (W : Int) = mx at *
          generalize hqy : (c : Int) / (W : Int) = qy at *
          have HMX := Lib.hid hmx
          have HQY := Lib.hid hqy
          clear hmx hqy
          go_wp2_with fail
          go_still_tail 18, (by kernel_rfl)
          refine wpStill_step (fun K hK => ?_)
          go_simp
          refine ⟨_, cellAt_any _ _ _ _ _ (by omega) (by omega) (by omega), hK _ ?_⟩
          clear hK K
          repeat still_step
          refine wpStill_nil ?_
          have hal' : Alters (fun k => k = G) w5 (wr.drew.setCell ⟨G, c, none⟩ (.int .i64 (cellS W H (mx + rx) (qy + ry)))) := (hali.trans (alters_drew _ _)).trans (alters_cell wr.drew G c _)
          have hown' : OwnInts w.heap.size (wr.drew.setCell ⟨G, c, none⟩ (.int .i64 (cellS W H (mx + rx) (qy + ry)))) (.slice (some ⟨G, 0, none⟩) n n) (gTo (gridEnt W H d) n (c + 1)) := by rw [HM.out]; exact (howni.alters (alters_drew (fun _ => False) wr) (fun _ h => h.elim)).set c _
          have HOW := Lib.hid hown'
          have HAL := Lib.hid hal'
          clear hown' hal' howni hali
          go_wp2
          go_roundw
          case rel => exact ⟨c + 1, by omega, by simp, HOW.out, HAL.out⟩
          case measure => simp [intOf]; omega
        · obtain rfl : c = n := by omega
          rw [gTo_full] at howni
          have hbx := hb5.alters hali (hGhi.out _ hbs) (fun k hk e => by have := H1.out k e; have := hGhi.out k this; omega) (fun k hk e => by have := H2.out k e; have := hGhi.out k this; omega) (fun k hk v hv e => by have := H3.out v hv k e; have := hGhi.out k this; omega)
          have hbwx : Below w.heap.size w wr := hbw5.trans (hali.below hbw5.size (fun k hk => by omega))
          have hzx := Lib.hid ((hali.block _ (Array.getElem?_eq_some_iff.1 hz5.out).1 (by omega)).trans hz5.out)
          have hGot : ∀ k, some k = ot.ownBlock → ¬ some k = (Value.slice (some ⟨G, 0, none⟩) c c).ownBlock := fun k e => by
            have h1 := H2.out k e
            have h2 := hGhi.out k h1
            simpa [Value.ownBlock] using h2
          have hlenN : ((List.range d).map (gridRow W H)).length = d := by simp
          have HLN := Lib.hid hlenN
          have HRO := Lib.hid (by have := (hbx.below ((Below.refl _ wr).alloc (Nat.le_refl _) (.cells #[.slice (some ⟨G, 0, none⟩) c c] 29))).rows.outer; rwa [hlenN] at this : (wr.alloc (.cells #[.slice (some ⟨G, 0, none⟩) c c] 29)).ownsRow w.heap.size 29 1 on d vs)
          have HOW := Lib.hid howni
          have HBX := Lib.hid hbx
          obtain ⟨_, hcx1, _, _, _⟩ := hbx.cell
          obtain ⟨j0, hj, hy0, hy1, hy2⟩ := info_parts info_row
          clear hlenN howni hbx a0 a1 hown hb5 hz5 hali H1 H2 H3 hGhi
          go_upto_region 14 with (at_builtin; go_loud (refine wpList_append_own_at _ rfl (.tmp 61) (.tmp 63) 28 rfl w.heap.size 29 j0 (.slice none 0 0) 1 24 Tryd.underlying28 hj hy0 hy1 hy2 rfl (by decide) on d vs rfl HRO.out ⟨wr.heap.size, 0, none⟩ 1 1 [.slice (some ⟨G, 0, none⟩) c c] rfl rfl (cell_one_new _ _ _) (by simp [Value.oneCell']) (by unfold maxLen; omega) (by omega) (by have := hbwx.size; simp; omega) ?_; intro v6 w6 hown6 hgrow6 _ hat6; obtain ⟨g6, cap6, rfl⟩ := ownsRow_succ hown6; have hg6 := HBX.out.grown_on hgrow6; have hc6 : w6.cell? ⟨w.heap.size + 1, 1, none⟩ = some on := by { unfold World.cell?; rw [hg6]; rfl }; have hf6 : w6.frozen? ⟨w.heap.size + 1, 1, none⟩ = false := by { unfold World.frozen?; rw [hg6]; simp }; clear hg6))
          obtain ⟨hb7, hal7⟩ := HBX.out.next HOW.out hGot (by rw [HLN.out]; exact hown6) hgrow6
          have hbw7 : Below w.heap.size w _ := hbwx.trans (hal7.below hbwx.size (fun k hk => by
            rcases hk with rfl | hk
            · omega
            · exact (HBX.out.own_on hk).1))
          have hz7 := Lib.hid ((hal7.block _ (Array.getElem?_eq_some_iff.1 hzx.out).1 (by
            rintro (h | h)
            · omega
            · exact own_type HBX.out.rows.outer hzx.out (by decide) h)).trans hzx.out)
          have hmr : (List.range (d + 1)).map (gridRow W H) = (List.range d).map (gridRow W H) ++ [gridRow W H d] := by simp [List.range_succ]
          have hgr : gridRow W H d = (List.range c).map (gridEnt W H d) := by unfold gridRow; rw [← HNE.out]
          rw [← hgr, ← hmr] at hb7
          obtain ⟨_, _, hcx2, _, _⟩ := hb7.cell
          have hlenT : ((List.range d).map gridTurn).length = d := by simp
          have HTO := Lib.hid (by have := (hb7.below ((Below.refl _ _).alloc (Nat.le_refl _) (.cells #[.int .i64 (((d : Int) + 4) % 8)] 3))).turn; unfold OwnInts at this; rwa [hlenT] at this : (World.alloc _ (.cells #[.int .i64 (((d : Int) + 4) % 8)] 3)).ownsRow w.heap.size 3 1 ot d (((List.range d).map gridTurn).map (Value.int .i64)))
          have HB7 := Lib.hid hb7
          clear hmr hgr hal7 hown6 hgrow6 hat6 hc6 hf6 hb7 hlenT HOW HBX HRO hzx hGot hcx1
          generalize w6.setCell _ _ = w7 at *
          go_wp2_with (at_builtin; go_loud (refine wpList_append_own_at _ rfl (.tmp 67) (.tmp 71) 29 rfl w.heap.size 3 i0 (.int .i64 0) 1 8 Tryd.underlying29 hi hz0 hz1 hz2 rfl (by decide) ot d _ rfl HTO.out ⟨w7.heap.size, 0, none⟩ 1 1 [.int .i64 (((d : Int) + 4) % 8)] rfl rfl (cell_one_new _ _ _) (by simp [Value.oneCell']) (by unfold maxLen; omega) (by omega) (by have := hbw7.size; simp; omega) ?_; intro v8 w8 hown8 hgrow8 _ hat8; obtain ⟨g8, cap8, rfl⟩ := ownsRow_succ hown8; have hg8 := HB7.out.grown_ot hgrow8; have hc8 : w8.cell? ⟨w.heap.size + 1, 2, none⟩ = some ot := by { unfold World.cell?; rw [hg8]; rfl }; have hf8 : w8.frozen? ⟨w.heap.size + 1, 2, none⟩ = false := by { unfold World.frozen?; rw [hg8]; simp }; clear hg8))
          have hown8' : OwnInts w.heap.size w8 (.slice (some ⟨g8, 0, none⟩) (d + 1) cap8) ((List.range (d + 1)).map gridTurn) := by
            have e : (List.range (d + 1)).map gridTurn = (List.range d).map gridTurn ++ [((d : Int) + 4) % 8] := by
              rw [List.range_succ, List.map_append]
              have : gridTurn d = ((d : Int) + 4) % 8 := by unfold gridTurn; omega
              simp [this]
            unfold OwnInts
            rw [e]
            simpa using hown8
          obtain ⟨hb8, hal8⟩ := HB7.out.turns hown8' hgrow8 hat8
          have hbw8 : Below w.heap.size w _ := hbw7.trans (hal8.below hbw7.size (fun k hk => by
            rcases hk with rfl | hk
            · omega
            · exact (HB7.out.own_ot hk).1))
          have hz8 := Lib.hid ((hal8.block _ (Array.getElem?_eq_some_iff.1 hz7.out).1 (by
            rintro (h | h)
            · omega
            · exact own_type HB7.out.turn hz7.out (by decide) h)).trans hz7.out)
          clear hown8 hown8' hgrow8 hat8 hal8
          go_roundw
          case rel => exact ⟨d + 1, _, _, _, by omega, by simp, hb8, hbw8, hz8⟩
          case measure => simp [intOf]; omega
    · obtain rfl : d = 8 := by omega
      have hbl := hb.lt
      obtain ⟨an, cn, at_, ct, rfl, rfl, hRw, hTu⟩ := hb.held
      obtain ⟨q0, q1, q2, _, _⟩ := hb.cell
      have hz := hzr.out
      have z0 : wr.cell? ⟨w.heap.size, 0, none⟩ = some (.int .i64 0) := by unfold World.cell?; rw [hz]; rfl
      have z1 : wr.cell? ⟨w.heap.size, 1, none⟩ = some (.slice none 0 0) := by unfold World.cell?; rw [hz]; rfl
      have z2 : wr.cell? ⟨w.heap.size, 2, none⟩ = some (.slice none 0 0) := by unfold World.cell?; rw [hz]; rfl
      have f0 : wr.frozen? ⟨w.heap.size, 0, none⟩ = false := by unfold World.frozen?; rw [hz]; simp
      have f1 : wr.frozen? ⟨w.heap.size, 1, none⟩ = false := by unfold World.frozen?; rw [hz]; simp
      have f2 : wr.frozen? ⟨w.heap.size, 2, none⟩ = false := by unfold World.frozen?; rw [hz]; simp
      have hal : Alters (fun k => k = w.heap.size) wr (((wr.setCell ⟨w.heap.size, 0, none⟩ (.int .i64 n)).setCell ⟨w.heap.size, 1, none⟩ (.slice an ((List.range 8).map (gridRow W H)).length cn)).setCell ⟨w.heap.size, 2, none⟩ (.slice at_ ((List.range 8).map gridTurn).length ct)) :=
        ⟨rfl, rfl, rfl, by simp [World.setCell], fun k _ hk => ((Below.heap_setCell _ _ _ _ hk).trans (Below.heap_setCell _ _ _ _ hk)).trans (Below.heap_setCell _ _ _ _ hk)⟩
      have hbN := hb.alters hal (by omega) (fun k hk => by rw [hk]; exact own_type hb.rows.outer hz (by decide)) (fun k hk => by rw [hk]; exact own_type hb.turn hz (by decide)) (fun k hk v hv => by
        rw [hk]
        obtain ⟨i, hi⟩ := List.getElem?_of_mem hv
        exact own_type (hb.rows.own i v hi) hz (by decide))
      have hbwN := hbw.trans (hal.below hbw.size (fun k hk => by omega))
      have HBN := Lib.hid hbN
      have l1 : ((List.range 8).map (gridRow W H)).length = 8 := by simp
      have l2 : ((List.range 8).map gridTurn).length = 8 := by simp
      rw [l1] at q1 hbwN
      rw [l2] at q2 hbwN
      have HL1 := Lib.hid l1
      have HL2 := Lib.hid l2
      clear hz hb hzr hbN hal hRw hTu l1 l2
      go_wp2
      refine bodyPost_ret_by (v := .tuple #[.agg #[.int .i64 n, .slice an 8 cn, .slice at_ 8 ct], .int .i64 0]) (by rw [results_cell_tmp rfl]; go_simp) rfl ?_
      refine ⟨an, cn, at_, ct, ?_, ?_, hbwN⟩
      · unfold Brd.val gridS
        rw [HNE.out, HL1.out, HL2.out]
      · obtain ⟨an', cn', at', ct', e1, e2, h1, h2⟩ := HBN.out.held
        cases e1
        cases e2
        rw [HL1.out, HL2.out] at h1 h2
        exact ⟨h1, h2⟩
end Go.Proofs.YtcpjkilnbhfpjaaDoor
