/-
  A list of positions of the call's own that grows by one.
  Many of the reference: a list of positions.
-/
import Derived.Test.YtphhkfelpckilaaGreatDoorGRows
import Derived.Test.YtphhkfelpckilaaGreatDoorDRow
import Derived.Test.YtphhkfelpckilaaGreatDoorGPos
import Derived.Test.YtphhkfelpckilaaGreatDoorDLiftQ
import Derived.Deep.MidRow
namespace Go.Proofs.YtphhkfelpckilaaGreatDoor
open Go Go.RowKit

theorem info_pos6 : (Tryz.prog.info? 32).map (fun i => (i.zero, i.size, i.bytes)) = some (some (.agg #[.slice none 0 0, .slice none 0 0, .slice none 0 0, .int .i64 0, .int .i64 0]), 5, 88) := by kernel_rfl
theorem PosOwn.off {h : Nat} {W W' : World} {a a0 a1 : Option Addr} {c c0 c1 : Nat} {p : PosS} {S : Nat → Prop} (ho : PosOwn h W a a0 a1 c c0 c1 p) (ha : Alters S W W') (hS : ∀ k, S k → Off W h [3] k) : PosOwn h W' a a0 a1 c c0 c1 p :=
  ⟨ownsRow_off ho.cells ha hS, ownsRow_off ho.h0 ha hS, ownsRow_off ho.h1 ha hS⟩
/-- All positions of a list are the call's own. -/
def AllOwn (h : Nat) (W : World) (L : List PosA) : Prop := ∀ x ∈ L, PosOwn h W x.a x.a0 x.a1 x.c x.c0 x.c1 x.p
theorem AllOwn.up {h : Nat} {W W' : World} {L : List PosA} (ho : AllOwn h W L) (hb : Below W.heap.size W W') : AllOwn h W' L := fun x hx => (ho x hx).up hb
theorem AllOwn.ok {h : Nat} {W : World} {L : List PosA} (ho : AllOwn h W L) (hf : ∀ x ∈ L, PosFit x.p) : ∀ x ∈ L, AOk W.heap.size W x := fun x hx => ⟨hf x hx, (ho x hx).in_⟩
theorem addPos {h : Nat} {W W7 : World} {v v' : Value} {L : List PosA} {y : PosA} (hh : h ≤ W.heap.size) (hrow : OwnPs h W v L) (hel : AllOwn h W L) (hy : PosOwn h W y.a y.a0 y.a1 y.c y.c0 y.c1 y.p)
    (hg : (W.alloc (.cells y.enc.toArray 32)).grownBy W7 v.ownBlock) (hr7 : W7.ownsRow h 32 5 v' (L.length + 1) (L.flatMap PosA.enc ++ y.enc)) :
    OwnPs h W7 v' (L ++ [y]) ∧ AllOwn h W7 (L ++ [y]) ∧ Below h W W7 := by
  have hA : Alters (fun b => some b = v.ownBlock) W W7 := (Alters.of_below (below_alloc (Below.refl _ W) _)).trans (Alters.of_grown hg)
  have hoff : ∀ k, some k = v.ownBlock → Off W h [3] k := fun k hk => off_own hrow hk (by simp)
  refine ⟨?_, fun x hx => ?_, hA.below hh (fun k hk => (World.ownsRow.lt hrow k hk.symm).1)⟩
  · unfold OwnPs
    rw [List.length_append, List.flatMap_append]
    simpa using hr7
  · rcases List.mem_append.1 hx with hx | hx
    · exact (hel x hx).off hA hoff
    · obtain rfl : x = y := by simpa using hx
      exact hy.off hA hoff
end Go.Proofs.YtphhkfelpckilaaGreatDoor

namespace Go.Proofs.YtphhkfelpckilaaGreatDoor
open Go Go.RowKit

theorem ps_empty (W : World) : OwnPs W.heap.size (W.alloc (.cells #[] 32)) (.slice (some ⟨W.heap.size, 0, none⟩) 0 0) [] :=
  ⟨rfl, .inr ⟨W.heap.size, 0, #[], rfl, Nat.le_refl _, World.alloc_heap_new _ _, Nat.le_refl _, by decide, rfl, rfl⟩⟩
theorem PRs.at_ {n : Nat} {W : World} {a : Option Addr} {l : List PRaw} (h : PRs n W a l) {j : Nat} (hj : j < l.length) :
    ∃ b off, a = some ⟨b, off, none⟩ ∧ b < n ∧ l[j].Ok ∧ W.rangeAt b (off + j * 18) l[j].cells.toList := by
  obtain ⟨b, off, e, hb, hok, hc⟩ := RowIn.at_ h hj
  refine ⟨b, off, e, hb, hok, fun i v hv => ?_⟩
  have hi : i < 18 := by
    have := (List.getElem?_eq_some_iff.1 hv).1
    exact this
  rw [hc i hi, hv]
theorem range_of_row {W : World} {b : Nat} {cs : List Value} {T : TypeId} (h : W.heap[b]? = some (.cells cs.toArray T (0, 0))) : W.rangeAt b 0 cs := fun j v hv => by
  rw [Nat.zero_add]
  exact bx_cell h j (by simpa using hv)
theorem rangeAt_below {n : Nat} {W W' : World} {b o : Nat} {cs : List Value} (h : W.rangeAt b o cs) (hb : Below n W W') (hl : b < n) : W'.rangeAt b o cs := fun j v hv => (hb.cell (p := ⟨b, o + j, none⟩) hl).trans (h j v hv)
theorem rangeAt_up {W W' : World} {b o : Nat} {cs : List Value} (h : W.rangeAt b o cs) (hb : Below W.heap.size W W') (hl : b < W.heap.size) : W'.rangeAt b o cs := fun j v hv => (hb.cell (p := ⟨b, o + j, none⟩) hl).trans (h j v hv)
set_option maxRecDepth 100000 in
set_option maxHeartbeats 4000000 in
theorem many_any (bc r : Nat) (ks : List Bool) (vn vt vm vc vb ve : Value) (ak : Option Addr) (ck N : Nat) (l : List PRaw) (al : Option Addr) (cl n : Nat) (w : World) (hbc : 1 ≤ bc ∧ bc ≤ 9) (hr : r ≤ 2) (hks : 1 ≤ ks.length ∧ ks.length ≤ 2) (hn : n ≤ 100)
    (hN : N ≤ w.heap.size) (hK : Keeps N w ak ks) (hl : PRs N w al l) :
    Calls Tryz.prog 14 #[.agg #[.int .i64 (bc : Int), vn, vt, .slice ak ks.length ck, .int .i64 (r : Int), vm, vc, vb, ve], .slice al l.length cl, .int .i64 (n : Int)] w fun e w' =>
      ∃ (L : List PosA) (g cap : Nat), e = .returned (.slice (some ⟨g, 0, none⟩) L.length cap) ∧ L.map (·.p) = (l.take n).map (madeP bc r ks) ∧ OwnPs w.heap.size w' (.slice (some ⟨g, 0, none⟩) L.length cap) L ∧ AllOwn w.heap.size w' L ∧ (∀ x ∈ L, PosGood bc r ks x.p) ∧ Below w.heap.size w w' := by
  have hG0 : (w.alloc (.cells #[.int .i64 (bc : Int), vn, vt, .slice ak ks.length ck, .int .i64 (r : Int), vm, vc, vb, ve] 41)).heap[w.heap.size]? = some (.cells #[.int .i64 (bc : Int), vn, vt, .slice ak ks.length ck, .int .i64 (r : Int), vm, vc, vb, ve] 41 (0, 0)) := World.alloc_heap_new _ _
  have hb0 : Below w.heap.size w (w.alloc (.cells #[.int .i64 (bc : Int), vn, vt, .slice ak ks.length ck, .int .i64 (r : Int), vm, vc, vb, ve] 41)) := below_alloc (Below.refl _ _) _
  go_enter Tryz.func14, Tryz.ntmps14
  go_upto_region 1 with (fail)
  generalize w.alloc (.cells #[.int .i64 (bc : Int), vn, vt, .slice ak ks.length ck, .int .i64 (r : Int), vm, vc, vb, ve] 41) = w0 at *
  have hbe : Below w.heap.size w (w0.alloc (.cells #[] 32)) := below_alloc hb0 _
  have hoe := ps_empty w0
  have HG0 := Lib.hid hG0
  have HB0 := Lib.hid hb0
  have HK := Lib.hid hK
  have HL := Lib.hid hl
  have hgl := bx_lt hG0
  have hsz0 := hb0.size
  clear hG0 hb0 hK hl hbe
  go_wp2_with fail
  go_loopw [7, 8] (fun v i wr => ∃ (k : Nat) (L : List PosA) (g cap : Nat), k ≤ l.length ∧ k ≤ n ∧ L.length = k ∧ v = .slice (some ⟨g, 0, none⟩) k cap ∧ i = .int .i64 k ∧ Hid (L.map (·.p) = (l.take k).map (madeP bc r ks)) ∧ OwnPs w0.heap.size wr (.slice (some ⟨g, 0, none⟩) k cap) L ∧ Hid (AllOwn w0.heap.size wr L) ∧ Hid (∀ x ∈ L, PosGood bc r ks x.p) ∧ Below w0.heap.size w0 wr)
    (fun _ i _ => l.length - (intOf i).toNat)
  case atStart => exact ⟨0, [], w0.heap.size, 0, Nat.zero_le _, Nat.zero_le _, rfl, rfl, rfl, Lib.hid rfl, hoe, Lib.hid (fun _ h => by cases h), Lib.hid (fun _ h => by cases h), below_alloc (Below.refl _ _) _⟩
  case round =>
    clear hoe
    obtain ⟨k, L, g, cap, hk1, hk2, hLk, rfl, rfl, HMP, hO, HAO, HGD, hbw⟩ := hrel
    generalize wr = w4 at *
    have hbE := HB0.out.trans (hbw.mono hsz0)
    have hlX := hbw.size
    by_cases h1 : k < l.length
    · by_cases h2 : k < n
      · skip
        obtain ⟨b, off, ha, hb, hok, hrg⟩ := PRs.at_ (RowIn.up HL.out hN hbE) h1
        subst ha
        obtain ⟨x, hx⟩ : ∃ x, l[k] = x := ⟨_, rfl⟩
        rw [hx] at hok hrg
        have hts : (l.take (k + 1)).map (madeP bc r ks) = (l.take k).map (madeP bc r ks) ++ [madeP bc r ks x] := by
          rw [List.take_add_one, List.map_append, List.getElem?_eq_getElem h1, hx]; rfl
        have HTS := Lib.hid hts
        clear hx hts
        have t1 : decide ((k : Int) < (l.length : Int)) = true := by simpa using h1
        have t1' : decide (k < l.length) = true := by simpa using h1
        have t2 : decide ((k : Int) < (n : Int)) = true := by simpa using h2
        have t3 : (0 : Int) ≤ (k : Int) := by omega
        have t4 : (k : Int) < (l.length : Int) := by omega
        have hG := (hbw.block w.heap.size hgl).trans HG0.out
        have hK4 := HK.out.below (hbE.mono hN)
        have hNb : N ≤ w4.heap.size := by have := hbE.size; omega
        have hbl : b < w0.heap.size := by omega
        have HS := Lib.hid (fun (W : World) (hW : Below w0.heap.size w4 W) => (⟨(hW.block w.heap.size hgl).trans hG, rangeAt_below hrg hW hbl⟩ : W.heap[w.heap.size]? = some (.cells #[.int .i64 (bc : Int), vn, vt, .slice ak ks.length ck, .int .i64 (r : Int), vm, vc, vb, ve] 41 (0, 0)) ∧ W.rangeAt b (off + k * 18) x.cells.toList))
        have HMX := Lib.hid (fun W h6 h5 => made_pos bc r ks vn vt vm vc vb ve ak ck N x W hbc hr hks hok h6 h5)
        have hxl : x.cells.toList.length = 18 := rfl
        have HK4 := Lib.hid hK4
        have HO := Lib.hid hO
        have HBW := Lib.hid hbw
        clear hG hrg hK4 hO hbw
        generalize x.cells = xs at *
        go_upto_region 5 with (fail)
        refine wp_region_held_drew (S := fun W => W.heap[w.heap.size]? = some (.cells #[.int .i64 (bc : Int), vn, vt, .slice ak ks.length ck, .int .i64 (r : Int), vm, vc, vb, ve] 41 (0, 0)) ∧ W.rangeAt b (off + k * 18) xs.toList) (by kernel_rfl) (HS.out _ ((Below.refl _ w4).drew)) (fun hHeld => ?_)
        have hb45 : Below w4.heap.size w4 w4.drew := (Below.refl _ w4).drew
        have hs5 : w4.drew.heap.size = w4.heap.size := rfl
        generalize w4.drew = w5 at *
        refine wpAnyH_take (i := 0) (oi := { dst := some 21, op := Op.move (Operand.tmp 7), type := 43, pos := "ref.go:292", after := #[], guard := none }) (v := ?_) rfl (by kernel_rfl) (by kernel_rfl) (by kernel_rfl) (fun _ _ _ h => h) (Or.inl ⟨by rfl, ?_⟩) (by assumption) ?_
        rotate_left
        · ((intro w hSw; (try dsimp only at hSw); go_simp); try with_reducible rfl)
        (try simp only [Act.put, List.setIfInBounds_toArray, List.set_cons_zero, List.set_cons_succ])
        refine wpAnyH_take (i := 1) (oi := { dst := some 22, op := Op.load 41 (Operand.tmp 3), type := 41, pos := "ref.go:292", after := #[], guard := none }) (v := .agg #[.int .i64 (bc : Int), vn, vt, .slice ak ks.length ck, .int .i64 (r : Int), vm, vc, vb, ve]) rfl (by kernel_rfl) (by kernel_rfl) (by kernel_rfl) (fun _ _ _ h => h) (yieldsIf_load_mid rfl 41 (.tmp 3) rfl w.heap.size 0 rfl [.int .i64 (bc : Int), vn, vt, .slice ak ks.length ck, .int .i64 (r : Int), vm, vc, vb, ve] _ (fun W hW => range_of_row hW.1) Tryz.underlying41 rfl info_game9) (by assumption) ?_
        (try simp only [Act.put, List.setIfInBounds_toArray, List.set_cons_zero, List.set_cons_succ])
        refine wpAnyH_take (i := 2) (oi := { dst := some 23, op := Op.move (Operand.tmp 1), type := 28, pos := "ref.go:292", after := #[], guard := none }) (v := ?_) rfl (by kernel_rfl) (by kernel_rfl) (by kernel_rfl) (fun _ _ _ h => h) (Or.inl ⟨by rfl, ?_⟩) (by assumption) ?_
        rotate_left
        · ((intro w hSw; (try dsimp only at hSw); go_simp); try with_reducible rfl)
        (try simp only [Act.put, List.setIfInBounds_toArray, List.set_cons_zero, List.set_cons_succ])
        refine wpAnyH_take (i := 3) (oi := { dst := some 24, op := Op.move (Operand.tmp 8), type := 3, pos := "ref.go:292", after := #[], guard := none }) (v := ?_) rfl (by kernel_rfl) (by kernel_rfl) (by kernel_rfl) (fun _ _ _ h => h) (Or.inl ⟨by rfl, ?_⟩) (by assumption) ?_
        rotate_left
        · ((intro w hSw; (try dsimp only at hSw); go_simp); try with_reducible rfl)
        (try simp only [Act.put, List.setIfInBounds_toArray, List.set_cons_zero, List.set_cons_succ])
        refine wpAnyH_take (i := 4) (oi := { dst := some 25, op := Op.indexAddr 28 (Operand.tmp 23) (Operand.tmp 24), type := 0, pos := "ref.go:292", after := #[{ on := 2, ground := Ground.data }, { on := 3, ground := Ground.data }], guard := none }) (v := ?_) rfl (by kernel_rfl) (by kernel_rfl) (by kernel_rfl) (fun _ _ _ h => h) (Or.inl ⟨by rfl, ?_⟩) (by assumption) ?_
        rotate_left
        · ((intro w hSw; (try dsimp only at hSw); go_simp); try with_reducible rfl)
        (try simp only [Act.put, List.setIfInBounds_toArray, List.set_cons_zero, List.set_cons_succ])
        refine wpAnyH_take (i := 5) (oi := { dst := some 26, op := Op.load 61 (Operand.tmp 25), type := 61, pos := "ref.go:292", after := #[{ on := 4, ground := Ground.data }], guard := none }) (v := .agg xs.toList.toArray) rfl (by kernel_rfl) (by kernel_rfl) (by kernel_rfl) (fun _ _ _ h => h) (yieldsIf_load_mid rfl 61 (.tmp 25) rfl b (off + k * 18) rfl xs.toList _ (fun W hW => hW.2) Tryz.underlying61 rfl (by rw [hxl]; exact info_raw4)) (by assumption) ?_
        (try simp only [Act.put, List.setIfInBounds_toArray, List.set_cons_zero, List.set_cons_succ])
        rw [Array.toArray_toList]
        refine wpAnyH_ready (rs := [6]) (by kernel_rfl) (by simp) ?_
        refine AllReadyH.cons (o := { dst := some 27, op := Op.call { callee := Callee.value (Operand.func 33), args := #[Operand.tmp 22, Operand.tmp 26], argTypes := #[41, 61] }, type := 32, pos := "ref.go:292", after := #[{ on := 1, ground := Ground.data }, { on := 5, ground := Ground.data }], guard := none }) rfl (fun K hK => ?_) AllReadyH.nil
        refine step_call_g rfl 33 _ _ #[.agg #[.int .i64 (bc : Int), vn, vt, .slice ak ks.length ck, .int .i64 (r : Int), vm, vc, vb, ve], .agg xs] rfl rfl (enters_of Tryz.func33 (by kernel_rfl) rfl) ((HMX.out w5 (by omega) (HK4.out.below (hb45.mono hNb))).mono ?_)
        rintro e w6 ⟨p, A, B0, B1, c, c0, c1, rfl, hPO, _, hgood, hpe, hb56⟩
        have HPE := Lib.hid hpe
        clear hpe
        have hb46 : Below w4.heap.size w4 w6 := below_step hb45 hb56
        refine ⟨_, rfl, hK.out _ _ (HS.out _ (hb46.mono hlX)) (fun _ => ?_)⟩
        clear hK K
        (try simp only [Act.put, List.setIfInBounds_toArray, List.set_cons_zero, List.set_cons_succ])
        obtain ⟨y, hy⟩ : ∃ y : PosA, y = ⟨p, some ⟨A, 0, none⟩, some ⟨B0, 0, none⟩, some ⟨B1, 0, none⟩, c, c0, c1⟩ := ⟨_, rfl⟩
        have hye : y.enc = [.slice (some ⟨A, 0, none⟩) p.cells.length c, .slice (some ⟨B0, 0, none⟩) p.h0.length c0, .slice (some ⟨B1, 0, none⟩) p.h1.length c1, .int .i64 p.rights, .int .i64 p.side] := by rw [hy]; rfl
        have hyo : PosOwn w0.heap.size w6 y.a y.a0 y.a1 y.c y.c0 y.c1 y.p := by rw [hy]; exact hPO.mono (by omega)
        have hyp : y.p = p := by rw [hy]
        have HYE := Lib.hid hye
        have HYO := Lib.hid hyo
        have HYP := Lib.hid hyp
        clear hPO hy hye hyo hyp
        refine wpAnyH_ready (rs := [7]) (by kernel_rfl) (by simp) ?_
        refine AllReadyH.cons (o := { dst := some 28, op := Op.buildSlice 43 1 #[(0, Operand.tmp 27)], type := 43, pos := "ref.go:292", after := #[{ on := 6, ground := Ground.data }], guard := none }) rfl (fun K hK => ?_) AllReadyH.nil
        go_simp
        refine hK.out _ _ (HS.out _ (Below.alloc (hb46.mono hlX) (Nat.le_trans hlX hb46.size) _)) (fun _ => ?_)
        clear hK K
        (try simp only [Act.put, List.setIfInBounds_toArray, List.set_cons_zero, List.set_cons_succ])
        have hs46 : w4.heap.size ≤ w6.heap.size := hb46.size
        have hO6 : OwnPs w0.heap.size w6 (.slice (some ⟨g, 0, none⟩) L.length cap) L := by rw [hLk]; exact HO.out.up hb46
        have hA6 := HAO.out.up hb46
        have hrA : (w6.alloc (.cells #[.slice (some ⟨A, 0, none⟩) p.cells.length c, .slice (some ⟨B0, 0, none⟩) p.h0.length c0, .slice (some ⟨B1, 0, none⟩) p.h1.length c1, .int .i64 p.rights, .int .i64 p.side] 32)).ownsRow w0.heap.size 32 5 (.slice (some ⟨g, 0, none⟩) k cap) k (L.flatMap PosA.enc) := by
          rw [hLk] at hO6
          have := hO6.up (below_alloc (Below.refl _ w6) (.cells #[.slice (some ⟨A, 0, none⟩) p.cells.length c, .slice (some ⟨B0, 0, none⟩) p.h0.length c0, .slice (some ⟨B1, 0, none⟩) p.h1.length c1, .int .i64 p.rights, .int .i64 p.side] 32))
          unfold OwnPs at this
          rw [hLk] at this
          exact this
        refine wpAnyH_ready (rs := [8]) (by kernel_rfl) (by simp) ?_
        refine AllReadyH.cons (o := { dst := some 29, op := Op.call { callee := Callee.builtin Builtin.append, args := #[Operand.tmp 21, Operand.tmp 28], argTypes := #[43, 43] }, type := 43, pos := "ref.go:292", after := #[{ on := 0, ground := Ground.data }, { on := 7, ground := Ground.data }, { on := 6, ground := Ground.chain }], guard := none }) rfl (fun K hK => ?_) AllReadyH.nil
        refine step_pushG rfl 43 32 (.agg #[.slice none 0 0, .slice none 0 0, .slice none 0 0, .int .i64 0, .int .i64 0]) 5 88 Tryz.underlying43 info_pos6 rfl (by decide) (by decide) (.tmp 21) (.tmp 28) rfl w0.heap.size _ k _ rfl hrA (by omega) (by simp; omega) w6.heap.size 1 [.slice (some ⟨A, 0, none⟩) p.cells.length c, .slice (some ⟨B0, 0, none⟩) p.h0.length c0, .slice (some ⟨B1, 0, none⟩) p.h1.length c1, .int .i64 p.rights, .int .i64 p.side] rfl rfl (World.alloc_heap_new _ _) (by simp [Value.oneCell']) (fun g7 cap7 w7 hown7 hg7 => ?_)
        rw [← HYE.out, ← hLk] at hown7
        rw [← hLk] at hg7
        obtain ⟨q1, q2, q3⟩ := addPos (Nat.le_trans hlX hs46) hO6 hA6 HYO.out (by rw [HYE.out]; exact hg7) hown7
        have hb47 : Below w0.heap.size w4 w7 := (hb46.mono hlX).trans q3
        refine hK.out _ _ (HS.out _ hb47) (fun _ => ?_)
        clear hK K
        (try simp only [Act.put, List.setIfInBounds_toArray, List.set_cons_zero, List.set_cons_succ])
        refine wpAnyH_take (i := 9) (oi := { dst := some 7, op := Op.assign (Operand.tmp 29), type := 43, pos := "ref.go:292", after := #[{ on := 8, ground := Ground.data }, { on := 8, ground := Ground.chain }, { on := 0, ground := Ground.phase }, { on := 1, ground := Ground.phase }, { on := 2, ground := Ground.phase }, { on := 3, ground := Ground.phase }, { on := 4, ground := Ground.phase }, { on := 5, ground := Ground.phase }, { on := 6, ground := Ground.phase }, { on := 7, ground := Ground.phase }, { on := 8, ground := Ground.phase }], guard := none }) (v := ?_) rfl (by kernel_rfl) (by kernel_rfl) (by kernel_rfl) (fun _ _ _ h => h) (Or.inl ⟨by rfl, ?_⟩) (by assumption) ?_
        rotate_left
        · ((intro w hSw; (try dsimp only at hSw); go_simp); try with_reducible rfl)
        (try simp only [Act.put, List.setIfInBounds_toArray, List.set_cons_zero, List.set_cons_succ])
        refine wpAnyH_done (by kernel_rfl) ?_ _
        have Q1 := Lib.hid q1
        have Q2 := Lib.hid q2
        have HG7 := Lib.hid hgood
        have HBX := Lib.hid (HBW.out.trans hb47)
        clear q1 q2 q3 hgood hown7 hg7 hO6 hA6 hrA hb47
        go_wp2_with fail
        go_roundw
        case rel => exact ⟨k + 1, L ++ [y], g7, cap7, by omega, by omega, by simp [hLk], rfl, by go_num, Lib.hid (by rw [HTS.out, List.map_append, HMP.out, ← HPE.out, ← HYP.out]; rfl), (by have := Q1.out; rw [hLk] at this; exact this), Lib.hid Q2.out, Lib.hid (fun z hz => by
            rcases List.mem_append.1 hz with hz | hz
            · exact HGD.out z hz
            · obtain rfl : z = y := by simpa using hz
              rw [HYP.out]; exact HG7.out), HBX.out⟩
        case measure => simp [intOf]; omega
      · skip
        have t1 : decide ((k : Int) < (l.length : Int)) = true := by simpa using h1
        have t1' : decide (k < l.length) = true := by simpa using h1
        have t2 : decide ((k : Int) < (n : Int)) = false := by simpa using h2
        have hpe : (l.take n).map (madeP bc r ks) = (l.take k).map (madeP bc r ks) := by rw [show n = k by omega]
        have HPE := Lib.hid hpe
        have HO := Lib.hid hO
        have HBE := Lib.hid hbE
        have HLK := Lib.hid hLk
        clear hpe hO hbE hbw hLk
        go_wp2
        go_ret
        exact ⟨L, g, cap, by rw [HLK.out]; rfl, by rw [HPE.out]; exact HMP.out, by rw [HLK.out]; exact HO.out.mono hsz0, fun x hx => (HAO.out x hx).mono hsz0, HGD.out, HBE.out⟩
    · skip
      have t1 : decide ((k : Int) < (l.length : Int)) = false := by simpa using h1
      have t1' : decide (k < l.length) = false := by simpa using h1
      have hpe : (l.take n).map (madeP bc r ks) = (l.take k).map (madeP bc r ks) := by rw [List.take_of_length_le (show l.length ≤ n by omega), List.take_of_length_le (show l.length ≤ k by omega)]
      have HPE := Lib.hid hpe
      have HO := Lib.hid hO
      have HBE := Lib.hid hbE
      have HLK := Lib.hid hLk
      clear hpe hO hbE hbw hLk
      go_wp2
      go_ret
      exact ⟨L, g, cap, by rw [HLK.out]; rfl, by rw [HPE.out]; exact HMP.out, by rw [HLK.out]; exact HO.out.mono hsz0, fun x hx => (HAO.out x hx).mono hsz0, HGD.out, HBE.out⟩
end Go.Proofs.YtphhkfelpckilaaGreatDoor
