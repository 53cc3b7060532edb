/-
 A line of words, put behind a text that a builder holds.
 The words of a line of numbers.
 putBoard of the package game.
 putKinds of the package game.
 putClause of the package game.
 The text of a game, and how long it is at most.
 written of the package game, for every valid game.
 Print of the package game, for every game; Code and Man.
-/
import Derived.Test.YtbmcngoeinginaaGreatDoorTk
import Derived.Test.YtbmcngoeinginaaGreatDoorCPro
import Derived.Test.YtbmcngoeinginaaGreatDoorCVal
import Derived.Lib.OthersKept
import Derived.Lib.FrozenHead
import Derived.Test.YtbmcngoeinginaaGreatDoorCBas
import Derived.RangeFuncBox
import Derived.Maps.AppendAt
import Derived.StillTailTactics
import Derived.Deep.RegionHeld3
import Derived.OrdersHeld
import Derived.Deep.QuietTactic
import Derived.Lib.Builder
namespace Go.Proofs.YtbmcngoeinginaaGreatDoor
open Go Go.RowKit Go.Lib
def ren167 : Go.Shelf.Ren := ⟨fun | 167 => 69 | n => Tryz.lays156_ren.f n, Tryz.lays156_ren.t, Tryz.lays156_ren.g⟩
theorem laysByte : Go.Proofs.Lays.n167 Tryz.prog ren167 :=
 { Tryz.lays156 with
   f167 := Tryz.func69.trans (congrArg some (by kernel_rfl))
   f240 := Tryz.func109.trans (congrArg some (by kernel_rfl))
   f276 := Tryz.lays156.f276.trans (congrArg some (by kernel_rfl))
   t5 := Tryz.Builder_Extra_156.t5
   a5 := Tryz.Builder_Extra_156.a5
   z5 := Tryz.Builder_Extra_156.z5
   v5 := Tryz.Builder_Extra_156.v5 }
set_option maxRecDepth 100000 in
theorem extraByte : Builder.Extra Tryz.prog ren167 := { Tryz.Builder_Extra_156 with }
theorem writeByte_any (B b : Nat) (L : List UInt8) (c : UInt8) (w : World) (h : Lib.IsBuilderF 120 5 B b (Lib.byteCells L) w) (hlen : L.length + 1 ≤ 140737488355328) (hB : B ≤ w.heap.size) :
   Calls Tryz.prog 69 #[.pointer (some ⟨b, 0, none⟩), .int .u8 (c.toNat : Int)] w fun e w' => (∃ v, e = .returned v) ∧ Lib.IsBuilderF 120 5 B b (Lib.byteCells (L ++ [c])) w' ∧ Below B w w' ∧ Lib.OthersKept 5 (some b) w w' := by
 have hW := Any.Builder_WriteByte_k (P := Tryz.prog) (ρ := ren167) laysByte extraByte B b (Lib.byteCells L) (c.toNat : Int) w h (by simp [Lib.byteCells]; omega) hB
 refine Calls.mono hW ?_
 rintro e w' ⟨rfl, h1, h2, h3⟩
 refine ⟨⟨_, rfl⟩, .inr ?_, h2, h3⟩
 have e : Lib.byteCells (L ++ [c]) = Lib.byteCells L ++ [.int .u8 (c.toNat : Int)] := by simp [Lib.byteCells]
 rw [e]
 exact h1
theorem writeString_any (B b : Nat) (L x : List UInt8) (w : World) (h : Lib.IsBuilderF 120 5 B b (Lib.byteCells L) w) (hlen : L.length + x.length ≤ 140737488355328) (hB : B ≤ w.heap.size) :
   Calls Tryz.prog 67 #[.pointer (some ⟨b, 0, none⟩), .string ⟨x.toArray⟩] w fun e w' => (∃ v, e = .returned v) ∧ Lib.IsBuilderF 120 5 B b (Lib.byteCells (L ++ x)) w' ∧ Below B w w' ∧ Lib.OthersKept 5 (some b) w w' := by
 have hW := Any.Builder_WriteString_k (P := Tryz.prog) (ρ := Tryz.lays156_ren) { Tryz.lays156 with } Tryz.Builder_Extra_156 B b (Lib.byteCells L) ⟨x.toArray⟩ w h (by simp [Lib.byteCells, ByteArray.size]; omega) hB
 refine Calls.mono hW ?_
 rintro e w' ⟨rfl, h1, h2, h3⟩
 refine ⟨⟨_, rfl⟩, .inr ?_, h2, h3⟩
 have e : Lib.byteCells (L ++ x) = Lib.byteCells L ++ Lib.strCells ⟨x.toArray⟩ := by simp [Lib.byteCells, Lib.strCells]
 rw [e]
 exact h1
def lineT (xs : List (List UInt8)) : List UInt8 := Lib.join xs [32] ++ [10]
def Txt (B b : Nat) (L : List UInt8) (W : World) : Prop := Lib.IsBuilderF 120 5 B b (Lib.byteCells L) W
theorem txt_at {T e : TypeId} {B b : Nat} {p : Value} {bs : List Value} {W W' : World} (h : Lib.BuilderAtF T e B b p bs W) (hb : Below W.heap.size W W') : Lib.BuilderAtF T e B b p bs W' := by
 have hlt := h.lt
 obtain ⟨hB, v, hv, hown, hne⟩ := h
 exact ⟨hB, v, (hb.block b hlt).trans hv, hown.kept (row := none) ⟨hb.os, hb.tape, hb.output, hb.size, fun k hk _ => hb.block k hk⟩ (Classical.em _), hne⟩
theorem Txt.up {B b : Nat} {L : List UInt8} {W W' : World} (h : Txt B b L W) (hb : Below W.heap.size W W') : Txt B b L W' :=
 h.elim (fun x => .inl (txt_at x hb)) (fun x => .inr (txt_at x hb))
structure Puts (B b : Nat) (L x : List UInt8) (w w' : World) : Prop where
 txt : Txt B b (L ++ x) w'
 low : Below B w w'
 oth : Lib.OthersKept 5 (some b) w w'
theorem oth_below {e : TypeId} {bo : Option Nat} {w w' : World} (hb : Below w.heap.size w w') : Lib.OthersKept e bo w w' := fun k _ hk _ _ => (hb.block k (Array.getElem?_eq_some_iff.1 hk).1).trans hk
theorem Puts.none_ {B b : Nat} {L : List UInt8} {w : World} (h : Txt B b L w) : Puts B b L [] w w := ⟨by rw [List.append_nil]; exact h, Below.refl _ _, Lib.OthersKept.refl _ _ _⟩
theorem Puts.after {B b : Nat} {L x : List UInt8} {w w1 w2 : World} (hb : Below w.heap.size w w1) (hB : B ≤ w.heap.size) (h : Puts B b L x w1 w2) : Puts B b L x w w2 := ⟨h.txt, (hb.mono hB).trans h.low, (oth_below hb).trans h.oth⟩
theorem Puts.then {B b : Nat} {L x y : List UInt8} {w w1 w2 : World} (h : Puts B b L x w w1) (k : Puts B b (L ++ x) y w1 w2) : Puts B b L (x ++ y) w w2 := ⟨by rw [← List.append_assoc]; exact k.txt, h.low.trans k.low, h.oth.trans k.oth⟩
theorem Puts.up {B b : Nat} {L x : List UInt8} {w w1 w2 : World} (h : Puts B b L x w w1) (hb : Below w1.heap.size w1 w2) (hB : B ≤ w.heap.size) : Puts B b L x w w2 := ⟨h.txt.up hb, h.low.trans (hb.mono (Nat.le_trans hB h.low.size)), h.oth.trans (oth_below hb)⟩
theorem Puts.block {B b : Nat} {L x : List UInt8} {w w' : World} (h : Puts B b L x w w') {k : Nat} {cs : Array Value} {t : TypeId} (hk : w.heap[k]? = some (.cells cs t (0, 0))) (hb : k ≠ b) (ht : t ≠ 5) : w'.heap[k]? = some (.cells cs t (0, 0)) :=
 h.oth k _ hk (fun e => hb (Option.some.inj e)) (fun c fz e => by cases e; exact ht rfl)
theorem itoa_any (n : Int) (h0 : -9223372036854775808 ≤ n) (h1 : n ≤ 9223372036854775807) (w : World) (hE : LibIn w) :
   Calls Tryz.prog 72 #[.int .i64 n] w fun e w' => e = .returned (.string ⟨(itoa n).toArray⟩) ∧ Below w.heap.size w w' := by
 refine (Tryz.strconv_Itoa n h0 h1 w hE.tab).mono ?_
 rintro e w' ⟨rfl, k, os, rfl⟩
 exact ⟨rfl, below_grow w k os⟩
set_option maxRecDepth 100000 in
theorem put_any (B b wb o c : Nat) (xs : List (List UInt8)) (L : List UInt8) (w : World) (h : Txt B b L w) (hcells : ∀ j (hj : j < xs.length), w.cell? ⟨wb, o + j, none⟩ = some (.string ⟨(xs[j]'hj).toArray⟩)) (hwb : wb < w.heap.size) (hn : xs.length ≤ 1000) (hc : xs.length ≤ c) (hlen : L.length + (lineT xs).length ≤ 1000000) (hB : B ≤ w.heap.size) :
   Calls Tryz.prog 66 #[.slice (some ⟨wb, o, none⟩) xs.length c, .pointer (some ⟨b, 0, none⟩)] w fun e w' => (∃ v, e = .returned v) ∧ Puts B b L (lineT xs) w w' := by
 have hll : (lineT xs).length = (Lib.join xs [32]).length + 1 := by unfold lineT; simp
 have hjn : ((xs.map fun t => (⟨t.toArray⟩ : ByteArray)).map (·.data.toList)) = xs := by rw [List.map_map]; exact (List.map_congr_left (fun _ _ => by simp)).trans (List.map_id xs)
 have hJ := Tryz.strings_Join wb o c (xs.map fun t => (⟨t.toArray⟩ : ByteArray)) ⟨#[32]⟩ w (fun j x hx => by
   rw [List.getElem?_map] at hx
   cases hj : xs[j]? with
   | none => rw [hj] at hx; cases hx
   | some t =>
     rw [hj] at hx
     cases hx
     obtain ⟨hlt, rfl⟩ := List.getElem?_eq_some_iff.1 hj
     exact hcells j hlt) hwb (by rw [List.length_map]; omega) (by rw [List.length_map]; exact hc) (by rw [hjn]; show (Lib.join xs [32]).length ≤ _; omega)
 rw [hjn, List.length_map] at hJ
 have HJ := Lib.hid hJ
 clear hJ hjn hcells
 have HW := Lib.hid (fun W (h1 : Below w.heap.size w W) => writeString_any B b L (Lib.join xs [32]) W (h.up h1) (by omega) (Nat.le_trans hB h1.size))
 have HC := Lib.hid (fun W (h1 : Txt B b (L ++ Lib.join xs [32]) W) (h2 : B ≤ W.heap.size) => writeByte_any B b (L ++ Lib.join xs [32]) 10 W h1 (by rw [List.length_append]; omega) h2)
 go_enter Tryz.func66, Tryz.ntmps66
 go_wp2_with fail
 refine HJ.out.mono ?_
 rintro e w2 ⟨rfl, hb2⟩
 go_wp2_with fail
 refine (HW.out w2 hb2).mono ?_
 rintro e w3 ⟨⟨v3, rfl⟩, ht3, hb3, ho3⟩
 have HP3 := Lib.hid (Puts.after hb2 hB (⟨ht3, hb3, ho3⟩ : Puts B b L (Lib.join xs [32]) w2 w3))
 clear ht3 hb3 ho3 hb2
 go_wp2_with fail
 refine (HC.out w3 HP3.out.txt (Nat.le_trans hB HP3.out.low.size)).mono ?_
 rintro e w4 ⟨⟨v4, rfl⟩, ht4, hb4, ho4⟩
 have HP4 := Lib.hid (HP3.out.then (⟨ht4, hb4, ho4⟩ : Puts B b (L ++ Lib.join xs [32]) [10] w3 w4))
 clear ht4 hb4 ho4
 go_wp2
 go_end0
 exact ⟨⟨_, rfl⟩, HP4.out⟩
end Go.Proofs.YtbmcngoeinginaaGreatDoor
namespace Go.Proofs.YtbmcngoeinginaaGreatDoor
open Go Go.RowKit Go.Lib
theorem info_strC : (Tryz.prog.info? 9).map (fun i => (i.zero, i.size, i.bytes)) = some (some (.string ⟨#[]⟩), 1, 16) := by kernel_rfl
def strC (t : List UInt8) : Value := .string ⟨t.toArray⟩
def OwnStrs (n : Nat) (W : World) (v : Value) (l : List (List UInt8)) : Prop := W.ownsRow n 9 1 v l.length (l.map strC)
theorem OwnStrs.alters {n : Nat} {W W' : World} {v : Value} {l : List (List UInt8)} (h : OwnStrs n W v l) {S : Nat → Prop} (ha : Alters S W W') (hS : ∀ k, S k → ¬ some k = v.ownBlock) : OwnStrs n W' v l := by
 refine ⟨h.1, ?_⟩
 rcases h.2 with h2 | ⟨g, cap, cur, rfl, hg, hc, r⟩
 · exact .inl h2
 · exact .inr ⟨g, cap, cur, rfl, hg, (ha.block g (Array.getElem?_eq_some_iff.1 hc).1 (fun hs => hS g hs rfl)).trans hc, r⟩
theorem OwnStrs.up {n : Nat} {W W' : World} {v : Value} {l : List (List UInt8)} (h : OwnStrs n W v l) (hb : Below W.heap.size W W') : OwnStrs n W' v l := h.alters (S := fun _ => False) (Alters.of_below hb) (fun _ h => h.elim)
theorem own_one (W : World) (x : List UInt8) : OwnStrs W.heap.size (W.alloc (.cells #[.string ⟨x.toArray⟩] 9)) (.slice (some ⟨W.heap.size, 0, none⟩) 1 1) [x] :=
 ⟨rfl, .inr ⟨W.heap.size, 1, #[.string ⟨x.toArray⟩], rfl, Nat.le_refl _, World.alloc_heap_new _ _, Nat.le_refl _, by unfold maxLen; omega, rfl, rfl⟩⟩
theorem OwnStrs.cells {n : Nat} {W : World} {v : Value} {l : List (List UInt8)} (h : OwnStrs n W v l) (hl : 1 ≤ l.length) :
   ∃ g c, v = .slice (some ⟨g, 0, none⟩) l.length c ∧ n ≤ g ∧ g < W.heap.size ∧ l.length ≤ c ∧ ∀ j (hj : j < l.length), W.cell? ⟨g, 0 + j, none⟩ = some (.string ⟨(l[j]'hj).toArray⟩) := by
 obtain ⟨m, hm⟩ : ∃ m, l.length = m + 1 := ⟨l.length - 1, by omega⟩
 have h2 := h
 unfold OwnStrs at h2
 rw [hm] at h2
 obtain ⟨g, c, rfl⟩ := ownsRow_succ h2
 rw [← hm] at h2
 have hlt := World.ownsRow.lt h2 g rfl
 refine ⟨g, c, by rw [hm], hlt.1, hlt.2, ?_, fun j hj => ?_⟩
 · rcases h2.2 with ⟨h0, _⟩ | ⟨g', cap', cur, hv, hg, hc, hn, hr⟩
   · cases h0
   · cases hv; simpa using hn
 · rw [Nat.zero_add, World.ownsRow.cellAt h2 j (by omega)]
   simp [strC, hj]
set_option maxRecDepth 100000 in
set_option maxHeartbeats 2000000 in
theorem line_any (first : List UInt8) (l : List Int) (a : Option Addr) (c N : Nat) (w : World) (hN : N ≤ w.heap.size) (hI : Ints N w a l) (hl : l.length ≤ 1000) (hr : ∀ x ∈ l, -9223372036854775808 ≤ x ∧ x ≤ 9223372036854775807) (hE : LibIn w) :
   Calls Tryz.prog 111 #[.string ⟨first.toArray⟩, .slice a l.length c] w fun e w' => ∃ v, e = .returned v ∧ OwnStrs w.heap.size w' v (first :: l.map itoa) ∧ Below w.heap.size w w' := by
 have hb0 := below_alloc (Below.refl _ w) (.cells #[.string ⟨first.toArray⟩] 9)
 have ho0 := own_one w first
 obtain ⟨i0, hi, hz0, hz1, hz2⟩ := info_parts info_strC
 go_enter Tryz.func111, Tryz.ntmps111
 go_upto_region 2 with (fail)
 generalize w.alloc (.cells #[.string ⟨first.toArray⟩] 9) = w0 at *
 go_wp2
 go_loopw [5, 12] (fun v5 v12 wr => ∃ q : Nat, q ≤ l.length ∧ v12 = .int .i64 (q : Int) ∧ OwnStrs w.heap.size wr v5 (first :: (l.take q).map itoa) ∧ Below w.heap.size w wr) (fun _ v12 _ => (l.length - intOf v12).toNat)
 case atStart => exact ⟨0, Nat.zero_le _, rfl, ho0, hb0⟩
 case round =>
   clear ho0 hb0;obtain ⟨q, hq, rfl, ho, hb⟩ := hrel;obtain ⟨ws, hws⟩ : ∃ ws, first :: (l.take q).map itoa = ws := ⟨_, rfl⟩;rw [hws] at ho
   have hwl : ws.length = q + 1 := by rw [← hws]; simp; omega
   by_cases hlt : q < l.length
   · obtain ⟨b, off, hab, hbN, hc⟩ := (hI.up hN hb).at_ hlt
     have hx := hr (l[q]?.getD 0) (by rw [List.getElem?_eq_getElem hlt]; exact List.getElem_mem hlt)
     have hnx : Hid (ws ++ [itoa (l[q]?.getD 0)] = first :: (l.take (q + 1)).map itoa) := Lib.hid (by rw [← hws, List.take_add_one, List.map_append, List.getElem?_eq_getElem hlt]; simp)
     generalize l[q]?.getD 0 = x at *;subst hab;have HI := Lib.hid (itoa_any x hx.1 hx.2 wr (hE.up hb))
     have t3 : decide ((q : Int) < (l.length : Int)) = true := by rw [decide_eq_true_eq]; omega
     have t3' : decide (q < l.length) = true := by simpa using hlt
     have y0 : IntKind.i64.wrap ((q : Int) + 1) = (q : Int) + 1 := IntWalk.i64_in _ (by omega);have HO := Lib.hid ho;have HB := Lib.hid hb;have HWL := Lib.hid hwl;clear ho hb hws hwl
     go_wp2_with fail
     refine HI.out.mono ?_;rintro e w2 ⟨rfl, hb2⟩;have hA : Below w2.heap.size w2 (w2.alloc (.cells #[.string ⟨(itoa x).toArray⟩] 9)) := below_alloc (Below.refl _ _) _;have HOA := Lib.hid ((HO.out.up hb2).up hA);unfold OwnStrs at HOA;have HB2 := Lib.hid (below_step HB.out hb2);have hs2 := HB2.out.size
     go_wp2_with (at_builtin; go_loud (refine wpList_append_own_at _ rfl (.tmp 16) (.tmp 19) 73 rfl w.heap.size 9 i0 (.string ⟨#[]⟩) 1 16 Tryz.underlying73 hi hz0 hz1 hz2 rfl (by decide) _ ws.length (ws.map strC) rfl HOA.out ⟨w2.heap.size, 0, none⟩ 1 1 [.string ⟨(itoa x).toArray⟩] rfl rfl (cell_one_new _ _ _) (by simp [Value.oneCell']) (by unfold maxLen; have := HWL.out; omega) (by have := HWL.out; omega) (by simp; omega) ?_; intro v8 w8 own8 g8 hnil8 h58))
     have hown : OwnStrs w.heap.size w8 v8 (ws ++ [itoa x]) := by unfold OwnStrs; rw [List.length_append, List.map_append]; exact own8
     rw [hnx.out] at hown;have hb8 : Below w.heap.size w w8 := (HB2.out.trans (hA.mono hs2)).trans ((Alters.of_grown g8).below (Nat.le_trans hs2 hA.size) (fun k hk => (World.ownsRow.lt HOA.out k hk.symm).1));have H8 := Lib.hid (And.intro hown hb8);clear own8 g8 hnil8 h58 hown hb8 hA hb2
     go_roundw
     case rel => exact ⟨q + 1, by omega, by go_num, H8.out.1, H8.out.2⟩
     case measure => simp [intOf]; omega
   · obtain rfl : q = l.length := by omega
     rw [List.take_length] at hws;have HO := Lib.hid ho;have HB := Lib.hid hb;have HWS := Lib.hid hws;clear ho hb hws hwl;go_wp2
     go_ret
     exact ⟨_, rfl, by rw [HWS.out]; exact HO.out, HB.out⟩
end Go.Proofs.YtbmcngoeinginaaGreatDoor
namespace Go.Proofs.YtbmcngoeinginaaGreatDoor
open Go Go.RowKit Go.Lib
def wBoard : List UInt8 := [98, 111, 97, 114, 100]
def wDir : List UInt8 := [100, 105, 114]
def wTurn : List UInt8 := [116, 117, 114, 110]
def dirT (r : List Int) : List UInt8 := lineT (wDir :: r.map itoa)
def boardT (bd : Brd) : List UInt8 := lineT [wBoard, itoa bd.cells, itoa (bd.next.length : Int)] ++ ((bd.next.map dirT).flatten ++ lineT (wTurn :: bd.turn.map itoa))
theorem flat_take (l : List (List UInt8)) (q : Nat) : ((l.take q).flatten).length ≤ l.flatten.length := by
 have : l.flatten = (l.take q).flatten ++ (l.drop q).flatten := by rw [← List.flatten_append, List.take_append_drop]
 rw [this, List.length_append]; omega
theorem flat_succ {α : Type} (f : α → List UInt8) (l : List α) (q : Nat) (h : q < l.length) : ((l.take (q + 1)).map f).flatten = ((l.take q).map f).flatten ++ f (l[q]'h) := by
 rw [List.take_add_one, List.map_append, List.flatten_append, List.getElem?_eq_getElem h]; simp
theorem step_call_h {w : World} {ops : Array Oper} {o : Oper} {a : Act} {K : Act → World → Prop} {Q : Exit → Act → World → Prop} {E : Prop} (hw : Region.wanted o (yielded ops a.tmps) = true) (f : Nat) (xs : Array Operand) (ts : Array TypeId) (args : Array Value)
   (ho : o.op = .call { callee := .value (.func f), args := xs, argTypes := ts }) (hal : xs.toList.map a.eval = args.toList) (eg : ∀ args w, (callFunc f args).run Tryz.prog w = .ok (.enter f args) w)
   (h : Calls Tryz.prog f args w fun e w' => ∃ v, e = .returned v ∧ K (a.put o.dst v) w') :
   if Region.wanted o (yielded ops a.tmps) = true then Oper.wp Tryz.prog o a w K Q else E := by
 rw [if_pos hw]
 have ha : xs.map a.eval = args := Array.ext' (by simpa using hal)
 have hr : (execOp a.eval o).run Tryz.prog w = .ok (.enter f args) w := by
   simp [execOp, ho, resolve, Deferred.ofValue, Act.eval, invoke] at ha ⊢
   rw [ha];exact eg args w
 unfold Oper.wp
 rw [hr]
 exact h.mono (by rintro e w' ⟨v, rfl, hk⟩; exact hk)
set_option maxRecDepth 100000 in
set_option maxHeartbeats 3000000 in
theorem putBoard_any (w0 : World) (B b N : Nat) (bd : Brd) (an at_ : Option Addr) (cn ct : Nat) (L : List UInt8) (w : World) (hE : LibIn w0) (hN : N ≤ w0.heap.size) (hH : Held N w0 an at_ bd) (hB0 : w0.heap.size ≤ B) (hw : Below w0.heap.size w0 w) (h : Txt B b L w) (hB : B ≤ w.heap.size)
   (hc : -9223372036854775808 ≤ bd.cells ∧ bd.cells ≤ 9223372036854775807) (hd : bd.next.length ≤ 1000) (hrow : ∀ r ∈ bd.next, r.length ≤ 500 ∧ ∀ x ∈ r, -9223372036854775808 ≤ x ∧ x ≤ 9223372036854775807) (htl : bd.turn.length ≤ 500) (htr : ∀ x ∈ bd.turn, -9223372036854775808 ≤ x ∧ x ≤ 9223372036854775807) (hlen : L.length + (boardT bd).length ≤ 1000000) :
   Calls Tryz.prog 70 #[.func (.func 66) #[] #[.pointer (some ⟨b, 0, none⟩)], .agg #[.int .i64 bd.cells, .slice an bd.next.length cn, .slice at_ bd.turn.length ct]] w fun e w' => (∃ v, e = .returned v) ∧ Puts B b L (boardT bd) w w' := by
 have hbl := h.elim (fun x => x.lt) (fun x => x.lt)
 have hb1 := below_alloc (Below.refl _ w) (.cells #[.int .i64 bd.cells, .slice an bd.next.length cn, .slice at_ bd.turn.length ct] 34)
 have hx1 : (w.alloc (.cells #[.int .i64 bd.cells, .slice an bd.next.length cn, .slice at_ bd.turn.length ct] 34)).heap[w.heap.size]? = some (.cells #[.int .i64 bd.cells, .slice an bd.next.length cn, .slice at_ bd.turn.length ct] 34 (0, 0)) := World.alloc_heap_new _ _
 have h1 := h.up hb1
 have hw1 := below_step hw hb1
 have HFIN := Lib.hid (fun (x : List UInt8) W (p : Puts B b L x (w.alloc (.cells #[.int .i64 bd.cells, .slice an bd.next.length cn, .slice at_ bd.turn.length ct] 34)) W) => p.after hb1 hB)
 have hB1 := Nat.le_trans hB hb1.size
 obtain ⟨bb, hbb⟩ : ∃ bb, w.heap.size = bb := ⟨_, rfl⟩
 go_enter Tryz.func70, Tryz.ntmps70
 go_upto_region 1 with (fail)
 rw [hbb] at hx1 hbl
 (try simp only [hbb])
 clear hbb
 generalize w.alloc (.cells #[.int .i64 bd.cells, .slice an bd.next.length cn, .slice at_ bd.turn.length ct] 34) = w1 at *
 go_cut [] from 6 to 15 (fun wx => Puts B b L (lineT [wBoard, itoa bd.cells, itoa (bd.next.length : Int)]) w1 wx ∧ wx.heap[bb]? = some (.cells #[.int .i64 bd.cells, .slice an bd.next.length cn, .slice at_ bd.turn.length ct] 34 (0, 0)))
 case first =>
   have hd1 : Below w1.heap.size w1 w1.drew := (Below.refl _ w1).drew;have HI1 := Lib.hid (fun W (k : Below w1.heap.size w1 W) => itoa_any bd.cells hc.1 hc.2 W (hE.up (below_step hw1 k)));have HI2 := Lib.hid (fun W (k : Below w1.heap.size w1 W) => itoa_any (bd.next.length : Int) (by omega) (by omega) W (hE.up (below_step hw1 k)));have HS := Lib.hid (fun W (k : Below w1.heap.size w1 W) => (⟨bx_cell ((k.block _ (bx_lt hx1)).trans hx1) 0 rfl, bx_cell ((k.block _ (bx_lt hx1)).trans hx1) 1 rfl, bx_cell ((k.block _ (bx_lt hx1)).trans hx1) 2 rfl⟩ : W.cell? ⟨bb, 0, none⟩ = some (.int .i64 bd.cells) ∧ W.cell? ⟨bb, 1, none⟩ = some (.slice an bd.next.length cn) ∧ W.cell? ⟨bb, 2, none⟩ = some (.slice at_ bd.turn.length ct)))
   refine wp_region_held_drew (S := fun W => W.cell? ⟨bb, 0, none⟩ = some (.int .i64 bd.cells) ∧ W.cell? ⟨bb, 1, none⟩ = some (.slice an bd.next.length cn) ∧ W.cell? ⟨bb, 2, none⟩ = some (.slice at_ bd.turn.length ct)) (by kernel_rfl) (HS.out _ hd1) (fun hHeld => ?_);generalize w1.drew = wD at *;refine TK 0 ?_;(try simp only [pS]);refine TK 1 ?_;(try simp only [pS]);refine TK 2 ?_;(try simp only [pS]);refine TK 4 ?_;(try simp only [pS]);refine TK 5 ?_;(try simp only [pS]);refine TK 6 ?_;(try simp only [pS]);refine wpAnyH_ready (rs := [3]) (by kernel_rfl) (by simp) ?_;refine AC (fun K hK => ?_) AllReadyH.nil;refine step_call_h rfl 72 _ _ #[.int .i64 bd.cells] rfl rfl (enters_of Tryz.func72 (by kernel_rfl) rfl) ((HI1.out wD hd1).mono ?_);rintro e wE ⟨rfl, hb⟩;have hE1 := below_step hd1 hb;refine ⟨_, rfl, hK.out _ _ (HS.out _ hE1) (fun _ => ?_)⟩;clear hK K hb;(try simp only [pS])
   refine wpAnyH_ready (rs := [7]) (by kernel_rfl) (by simp) ?_;refine AC (fun K hK => ?_) AllReadyH.nil;refine step_call_h rfl 72 _ _ #[.int .i64 (bd.next.length : Int)] rfl rfl (enters_of Tryz.func72 (by kernel_rfl) rfl) ((HI2.out wE hE1).mono ?_);rintro e wF ⟨rfl, hb⟩;have hF := below_step hE1 hb;refine ⟨_, rfl, hK.out _ _ (HS.out _ hF) (fun _ => ?_)⟩;clear hK K hb;(try simp only [pS]);refine wpAnyH_ready (rs := [8]) (by kernel_rfl) (by simp) ?_;refine AC (fun K hK => ?_) AllReadyH.nil;go_simp;have hba := below_alloc (Below.refl _ wF) (.cells #[.string ⟨wBoard.toArray⟩, .string ⟨(itoa bd.cells).toArray⟩, .string ⟨(itoa (bd.next.length : Int)).toArray⟩] 9);have hF2 := below_step hF hba
   have hcl : ∀ j (hj : j < ([wBoard, itoa bd.cells, itoa (bd.next.length : Int)] : List (List UInt8)).length), (wF.alloc (.cells #[.string ⟨wBoard.toArray⟩, .string ⟨(itoa bd.cells).toArray⟩, .string ⟨(itoa (bd.next.length : Int)).toArray⟩] 9)).cell? ⟨wF.heap.size, 0 + j, none⟩ = some (.string ⟨(([wBoard, itoa bd.cells, itoa (bd.next.length : Int)] : List (List UInt8))[j]'hj).toArray⟩) := by
     intro j hj
     rcases (show j = 0 ∨ j = 1 ∨ j = 2 by simp at hj; omega) with rfl | rfl | rfl <;> exact cell_new_at _ _ _ _ _ _ rfl rfl
   refine hK.out _ _ (HS.out _ hF2) (fun _ => ?_);clear hK K;(try simp only [pS]);refine wpAnyH_ready (rs := [9]) (by kernel_rfl) (by simp) ?_;refine AC (fun K hK => ?_) AllReadyH.nil;go_simp
   refine (put_any B b wF.heap.size 0 3 [wBoard, itoa bd.cells, itoa (bd.next.length : Int)] L _ (h1.up hF2) hcl (by simp) (by simp) (by simp) (by unfold boardT at hlen; simp only [List.length_append] at hlen; omega) (Nat.le_trans hB1 hF2.size)).mono ?_
   rintro e wG ⟨⟨vv, rfl⟩, hp⟩;have hpG := Puts.after hF2 hB1 hp;have hxG := hpG.block hx1 (by omega) (by decide);refine hK.out _ _ ⟨bx_cell hxG 0 rfl, bx_cell hxG 1 rfl, bx_cell hxG 2 rfl⟩ (fun _ => ?_);clear hK K;(try simp only [pS]);refine wpAnyH_done (by kernel_rfl) ?_ _;have HP := Lib.hid hpG;have HX := Lib.hid hxG;clear hp hpG hxG hba hF2 hcl
   go_wp2_with fail
   go_meet
   exact ⟨HP.out, HX.out⟩
 case rest =>
   obtain ⟨hp, hx⟩ := hcut;generalize wc = w2 at *;have q0 := bx_cell hx 0 rfl;have q1 := bx_cell hx 1 rfl;have q2 := bx_cell hx 2 rfl;obtain ⟨l1, hl1⟩ : ∃ l1, lineT [wBoard, itoa bd.cells, itoa (bd.next.length : Int)] = l1 := ⟨_, rfl⟩
   have HBT : Hid (boardT bd = l1 ++ ((bd.next.map dirT).flatten ++ lineT (wTurn :: bd.turn.map itoa))) := Lib.hid (by unfold boardT; rw [hl1])
   rw [hl1] at hp;have HP0 := Lib.hid hp;have HX0 := Lib.hid hx;have HX1 := Lib.hid hx1;clear hp hx hl1 h1 hb1 hx1 h
   go_wp2_with fail
   clear q0 q1 q2
   go_loopw [19] (fun v19 wr => ∃ q : Nat, q ≤ bd.next.length ∧ v19 = .int .i64 (q : Int) ∧ Puts B b L (l1 ++ ((bd.next.take q).map dirT).flatten) w1 wr ∧ wr.heap[bb]? = some (.cells #[.int .i64 bd.cells, .slice an bd.next.length cn, .slice at_ bd.turn.length ct] 34 (0, 0))) (fun v19 _ => (bd.next.length - intOf v19).toNat)
   case atStart => exact ⟨0, Nat.zero_le _, rfl, by simpa using HP0.out, HX0.out⟩
   case round =>
     clear HP0 HX0;obtain ⟨q, hq, rfl, hp, hx⟩ := hrel;have hwr := hw1.trans (hp.low.mono hB0);have hBr := Nat.le_trans hB1 hp.low.size
     by_cases hlt : q < bd.next.length
     · obtain ⟨ab, off, aj, cj, hab, hbn, z0, hI⟩ := (hH.1.up hN hwr).at_ hlt
       have hge : bd.next[q]?.getD [] = bd.next[q] := by rw [List.getElem?_eq_getElem hlt]; rfl
       rw [hge] at z0 hI;have hro := hrow _ (List.getElem_mem hlt)
       have hfl : (l1 ++ ((bd.next.take q).map dirT).flatten) ++ dirT bd.next[q] = l1 ++ ((bd.next.take (q + 1)).map dirT).flatten := by rw [flat_succ dirT bd.next q hlt, List.append_assoc]
       have hll : L.length + (l1 ++ ((bd.next.take (q + 1)).map dirT).flatten).length ≤ 1000000 := by
         have h2 := flat_take (bd.next.map dirT) (q + 1);rw [← List.map_take] at h2;have h3 := congrArg List.length HBT.out;simp only [List.length_append] at h3 ⊢
         omega
       rw [← hfl] at hll;have HFL := Lib.hid hfl;clear hfl hge;obtain ⟨row, hrw⟩ : ∃ row, bd.next[q] = row := ⟨_, rfl⟩;rw [hrw] at z0 hI hro hll HFL;clear hrw;obtain ⟨x0, hx0⟩ : ∃ x0, l1 ++ ((bd.next.take q).map dirT).flatten = x0 := ⟨_, rfl⟩;rw [hx0] at hp hll HFL;clear hx0;subst hab;have HLI := Lib.hid (line_any wDir row aj cj N wr (Nat.le_trans hN hwr.size) hI (by omega) hro.2 (hE.up hwr))
       have t3 : decide ((q : Int) < (bd.next.length : Int)) = true := by rw [decide_eq_true_eq]; omega
       have t3' : decide (q < bd.next.length) = true := by simpa using hlt
       have y0 : IntKind.i64.wrap ((q : Int) + 1) = (q : Int) + 1 := IntWalk.i64_in _ (by omega);have HP := Lib.hid hp;have HX := Lib.hid hx;clear hp hx hwr
       go_wp2_with fail
       refine HLI.out.mono ?_;rintro e w3 ⟨v, rfl, ho, hb3⟩;obtain ⟨g, c, rfl, hgn, hgl, hgc, hcl⟩ := ho.cells (by simp);have hp3 := HP.out.up hb3 hB1
       have HPT := Lib.hid (put_any B b g 0 c (wDir :: row.map itoa) (L ++ x0) w3 hp3.txt hcl hgl (by simp; omega) hgc (by rw [List.length_append]; unfold dirT at hll; rw [List.length_append] at hll; omega) (Nat.le_trans hBr hb3.size))
       rw [show (wDir :: row.map itoa).length = row.length + 1 by simp] at HPT;have HP3 := Lib.hid hp3;clear hp3 hcl ho hb3
       go_wp2_with fail
       refine HPT.out.mono ?_;rintro e w4 ⟨⟨v4, rfl⟩, hp4⟩;have hp5 := HP3.out.then hp4;rw [show lineT (wDir :: row.map itoa) = dirT row from rfl, HFL.out] at hp5;have HP5 := Lib.hid hp5;have HX5 := Lib.hid (hp4.block (HP3.out.block (show w1.heap[bb]? = _ from HX1.out) (by omega) (by decide)) (by omega) (by decide));clear hp4 hp5;go_wp2
       go_roundw
       case rel => exact ⟨q + 1, by omega, by go_num, HP5.out, HX5.out⟩
       case measure => simp [intOf]; omega
     · obtain rfl : q = bd.next.length := by omega
       rw [List.take_length] at hp
       have hll : L.length + (l1 ++ (bd.next.map dirT).flatten ++ lineT (wTurn :: bd.turn.map itoa)).length ≤ 1000000 := by
         have h3 := congrArg List.length HBT.out;simp only [List.length_append] at h3 ⊢
         omega
       obtain ⟨x0, hx0⟩ : ∃ x0, l1 ++ (bd.next.map dirT).flatten = x0 := ⟨_, rfl⟩;have HXB : Hid (boardT bd = x0 ++ lineT (wTurn :: bd.turn.map itoa)) := Lib.hid (by rw [HBT.out, ← hx0, List.append_assoc]);rw [hx0] at hp hll;clear hx0 HBT;have HLI := Lib.hid (line_any wTurn bd.turn at_ ct N wr (Nat.le_trans hN hwr.size) (hH.2.up hN hwr) (by omega) htr (hE.up hwr));have q0 := bx_cell hx 0 rfl;have q1 := bx_cell hx 1 rfl;have q2 := bx_cell hx 2 rfl;have HP := Lib.hid hp;clear hp hwr
       go_wp2_with fail
       refine HLI.out.mono ?_;rintro e w3 ⟨v, rfl, ho, hb3⟩;obtain ⟨g, c, rfl, hgn, hgl, hgc, hcl⟩ := ho.cells (by simp);have hp3 := HP.out.up hb3 hB1
       have HPT := Lib.hid (put_any B b g 0 c (wTurn :: bd.turn.map itoa) (L ++ x0) w3 hp3.txt hcl hgl (by simp; omega) hgc (by simp only [List.length_append] at hll ⊢; omega) (Nat.le_trans hBr hb3.size))
       rw [show (wTurn :: bd.turn.map itoa).length = bd.turn.length + 1 by simp] at HPT;have HP3 := Lib.hid hp3;clear hp3 hcl ho hb3 q0 q1 q2
       go_wp2_with fail
       refine HPT.out.mono ?_;rintro e w4 ⟨⟨v4, rfl⟩, hp4⟩;have hp5 := HP3.out.then hp4;rw [← HXB.out] at hp5;have HP5 := Lib.hid hp5;clear hp4 hp5;go_wp2;go_end0;exact ⟨⟨_, rfl⟩, HFIN.out _ _ HP5.out⟩
end Go.Proofs.YtbmcngoeinginaaGreatDoor
namespace Go.Proofs.YtbmcngoeinginaaGreatDoor
open Go Go.RowKit Go.Lib
def wKind : List UInt8 := [107, 105, 110, 100]
def wKeep : List UInt8 := [107, 101, 101, 112]
def wProg : List UInt8 := [112, 114, 111, 103]
def progT (p : List (Int × Int)) : List UInt8 := lineT [wProg, printS p]
def kindL (k : KindD) : List UInt8 := lineT (if k.keep = true then [wKind, k.name, wKeep] else [wKind, k.name])
def kindT (k : KindD) : List UInt8 := kindL k ++ (k.progs.map progT).flatten
def kindsT (ks : List KindD) : List UInt8 := (ks.map kindT).flatten
theorem strs_cells {W : World} {wb : Nat} (xs : List (List UInt8)) (h : W.heap[wb]? = some (.cells (xs.map strC).toArray 9 (0, 0))) : ∀ j (hj : j < xs.length), W.cell? ⟨wb, 0 + j, none⟩ = some (.string ⟨(xs[j]'hj).toArray⟩) := fun j hj => by
 rw [Nat.zero_add]
 exact bx_cell h j (by simp [strC, hj])
set_option maxRecDepth 100000 in
set_option maxHeartbeats 3000000 in
theorem putKinds_any (w0 : World) (B b N : Nat) (ks : List KindD) (ak : Option Addr) (ck : Nat) (L : List UInt8) (w : World) (hE : LibIn w0) (hN : N ≤ w0.heap.size) (hK : KindsIn N w0 ak ks) (hB0 : w0.heap.size ≤ B) (hw : Below w0.heap.size w0 w) (h : Txt B b L w) (hB : B ≤ w.heap.size)
   (hd : ks.length ≤ 1000) (hps : ∀ k ∈ ks, k.progs.length ≤ 1000) (hlen : L.length + (kindsT ks).length ≤ 1000000) :
   Calls Tryz.prog 71 #[.func (.func 66) #[] #[.pointer (some ⟨b, 0, none⟩)], .slice ak ks.length ck] w fun e w' => (∃ v, e = .returned v) ∧ Puts B b L (kindsT ks) w w' := by
 have hbl := h.elim (fun x => x.lt) (fun x => x.lt)
 have HP0 := Lib.hid (Puts.none_ h)
 clear h
 go_enter Tryz.func71, Tryz.ntmps71
 go_wp2
 go_loopw [10, 5, 7, 29] (fun v10 _ _ _ wr => ∃ q : Nat, q ≤ ks.length ∧ v10 = .int .i64 (q : Int) ∧ Puts B b L (((ks.take q).map kindT).flatten) w wr) (fun v10 _ _ _ _ => (ks.length - intOf v10).toNat)
 case atStart => exact ⟨0, Nat.zero_le _, rfl, HP0.out⟩
 case round =>
   clear HP0;obtain ⟨q, hq, rfl, hp⟩ := hrel;have hwr := hw.trans (hp.low.mono hB0);have hBr := Nat.le_trans hB hp.low.size
   by_cases hlt : q < ks.length
   · obtain ⟨kb, off, aj, cj, hak, hbn, z0', z1', zP, z2'⟩ := hK.at_ hlt
     have z0 := (hwr.cell (p := ⟨kb, off + q * 3, none⟩) (show kb < w0.heap.size by omega)).trans z0';have z1 := (hwr.cell (p := ⟨kb, off + q * 3 + 1, none⟩) (show kb < w0.heap.size by omega)).trans z1';have z2 := (hwr.cell (p := ⟨kb, off + q * 3 + 2, none⟩) (show kb < w0.heap.size by omega)).trans z2';clear z0' z1' z2';have hpl := hps _ (List.getElem_mem hlt)
     have hfl : ((ks.take q).map kindT).flatten ++ kindT ks[q] = ((ks.take (q + 1)).map kindT).flatten := by rw [flat_succ kindT ks q hlt]
     have hll : L.length + (((ks.take (q + 1)).map kindT).flatten).length ≤ 1000000 := by
       have h2 := flat_take (ks.map kindT) (q + 1);rw [← List.map_take] at h2;unfold kindsT at hlen
       omega
     rw [← hfl] at hll;have HFL := Lib.hid hfl;clear hfl;obtain ⟨kq, hkq⟩ : ∃ kq, ks[q] = kq := ⟨_, rfl⟩;rw [hkq] at z0 z1 zP z2 hpl hll HFL;clear hkq;obtain ⟨x0, hx0⟩ : ∃ x0, ((ks.take q).map kindT).flatten = x0 := ⟨_, rfl⟩;rw [hx0] at hp hll HFL;clear hx0;subst hak
     have t3 : decide ((q : Int) < (ks.length : Int)) = true := by rw [decide_eq_true_eq]; omega
     have t3' : decide (q < ks.length) = true := by simpa using hlt
     have b3 : (0 : Int) ≤ (q : Int) := by omega
     have b4 : (q : Int) < (ks.length : Int) := by omega
     have y0 : IntKind.i64.wrap ((q : Int) + 1) = (q : Int) + 1 := IntWalk.i64_in _ (by omega);have hba := below_alloc (Below.refl _ wr) (.cells #[.string ⟨kq.name.toArray⟩, .slice aj kq.progs.length cj, .bool kq.keep] 63);have hkb : (wr.alloc (.cells #[.string ⟨kq.name.toArray⟩, .slice aj kq.progs.length cj, .bool kq.keep] 63)).heap[wr.heap.size]? = some (.cells #[.string ⟨kq.name.toArray⟩, .slice aj kq.progs.length cj, .bool kq.keep] 63 (0, 0)) := World.alloc_heap_new _ _;have hpA := hp.up hba hB;have hbw : b < wr.heap.size := hp.txt.elim (fun x => x.lt) (fun x => x.lt);go_upto_region 3 with (fail);obtain ⟨kx, hkx⟩ : ∃ kx, wr.heap.size = kx := ⟨_, rfl⟩;rw [hkx] at hkb hbw hba;generalize wr.alloc (.cells #[.string ⟨kq.name.toArray⟩, .slice aj kq.progs.length cj, .bool kq.keep] 63) = wA at *;have hwA := hw.trans (hpA.low.mono hB0);have hBA := Nat.le_trans hB hpA.low.size
     have ZP := Lib.hid (fun W (k : Below w0.heap.size w0 W) => True.intro);(try simp only [hkx]);clear z0 z1 z2 hkx;have q0 := bx_cell hkb 0 rfl;have q1 := bx_cell hkb 1 rfl;have q2 := bx_cell hkb 2 rfl;go_upto_if 15 with (fail);clear q0 q1 q2
     go_cut [] from 13 to 25 (fun wx => Puts B b L (x0 ++ kindL kq) w wx ∧ wx.heap[kx]? = some (.cells #[.string ⟨kq.name.toArray⟩, .slice aj kq.progs.length cj, .bool kq.keep] 63 (0, 0)))
     case first =>
       cases hk : kq.keep with
       | true =>
         rw [hk] at hkb
         have HKL : Hid (kindL kq = lineT [wKind, kq.name, wKeep]) := Lib.hid (by unfold kindL; rw [hk]; rfl)
         have HK := Lib.hid hk;have hkbx : wA.heap[kx]? = some (.cells #[.string ⟨kq.name.toArray⟩, .slice aj kq.progs.length cj, .bool true] 63 (0, 0)) := hkb;have q0 := bx_cell hkbx 0 rfl;have q1 := bx_cell hkbx 1 rfl;have q2 := bx_cell hkbx 2 rfl;have hbs := below_alloc (Below.refl _ wA) (.cells ([wKind, kq.name, wKeep].map strC).toArray 9);have hpS := hpA.up hbs hB
         have HPT := Lib.hid (put_any B b wA.heap.size 0 3 [wKind, kq.name, wKeep] (L ++ x0) (wA.alloc (.cells ([wKind, kq.name, wKeep].map strC).toArray 9)) hpS.txt (strs_cells [wKind, kq.name, wKeep] (World.alloc_heap_new _ _)) (by simp) (by simp) (by simp) (by have := congrArg List.length HKL.out; unfold kindT at hll; simp only [List.length_append] at hll ⊢; omega) (Nat.le_trans hBA hbs.size))
         have HPS := Lib.hid hpS;have HBX := Lib.hid ((hbs.block _ (bx_lt hkbx)).trans hkbx);clear hpS hbs hk hkb hkbx
         go_wp2_with fail
         refine HPT.out.mono ?_;rintro e wB ⟨⟨vB, rfl⟩, hpB⟩;have hpC := HPS.out.then hpB;rw [← HKL.out] at hpC;have hxB := hpB.block HBX.out (by omega) (by decide);have HPC := Lib.hid hpC;have HXB := Lib.hid hxB;clear hpB hpC hxB q0 q1 q2
         go_wp2_with fail
         go_meet
         exact ⟨HPC.out, by rw [HK.out]; exact HXB.out⟩
       | false =>
         rw [hk] at hkb
         have HKL : Hid (kindL kq = lineT [wKind, kq.name]) := Lib.hid (by unfold kindL; rw [hk]; rfl)
         have HK := Lib.hid hk;have hkbx : wA.heap[kx]? = some (.cells #[.string ⟨kq.name.toArray⟩, .slice aj kq.progs.length cj, .bool false] 63 (0, 0)) := hkb;have q0 := bx_cell hkbx 0 rfl;have q1 := bx_cell hkbx 1 rfl;have q2 := bx_cell hkbx 2 rfl;have hbs := below_alloc (Below.refl _ wA) (.cells ([wKind, kq.name].map strC).toArray 9);have hpS := hpA.up hbs hB
         have HPT := Lib.hid (put_any B b wA.heap.size 0 2 [wKind, kq.name] (L ++ x0) (wA.alloc (.cells ([wKind, kq.name].map strC).toArray 9)) hpS.txt (strs_cells [wKind, kq.name] (World.alloc_heap_new _ _)) (by simp) (by simp) (by simp) (by have := congrArg List.length HKL.out; unfold kindT at hll; simp only [List.length_append] at hll ⊢; omega) (Nat.le_trans hBA hbs.size))
         have HPS := Lib.hid hpS;have HBX := Lib.hid ((hbs.block _ (bx_lt hkbx)).trans hkbx);clear hpS hbs hk hkb hkbx
         go_wp2_with fail
         refine HPT.out.mono ?_;rintro e wB ⟨⟨vB, rfl⟩, hpB⟩;have hpC := HPS.out.then hpB;rw [← HKL.out] at hpC;have hxB := hpB.block HBX.out (by omega) (by decide);have HPC := Lib.hid hpC;have HXB := Lib.hid hxB;clear hpB hpC hxB q0 q1 q2
         go_wp2_with fail
         go_meet
         exact ⟨HPC.out, by rw [HK.out]; exact HXB.out⟩
     case rest =>
       obtain ⟨hpH, hxH⟩ := hcut;clear hpA hkb hwA hBA ZP hp hwr hBr hba;generalize wc = wH at *;have q1 := bx_cell hxH 1 rfl;have HPH := Lib.hid hpH;clear hpH hxH
       go_wp2_with fail
       clear q1
       go_loopw [29, 7] (fun v29 _ wi => ∃ j : Nat, j ≤ kq.progs.length ∧ v29 = .int .i64 (j : Int) ∧ Puts B b L ((x0 ++ kindL kq) ++ ((kq.progs.take j).map progT).flatten) w wi) (fun v29 _ _ => (kq.progs.length - intOf v29).toNat)
       case atStart => exact ⟨0, Nat.zero_le _, rfl, by simpa using HPH.out⟩
       case round =>
         clear HPH;obtain ⟨j, hj, rfl, hp⟩ := hrel;have hwi := hw.trans (hp.low.mono hB0);have hBi := Nat.le_trans hB hp.low.size
         by_cases hjl : j < kq.progs.length
         · obtain ⟨pb, poff, pj, pc, hap, hpn, p0, hPr⟩ := (zP.up hN hwi).at_ hjl
           have hfl : ((x0 ++ kindL kq) ++ ((kq.progs.take j).map progT).flatten) ++ progT kq.progs[j] = (x0 ++ kindL kq) ++ ((kq.progs.take (j + 1)).map progT).flatten := by rw [flat_succ progT kq.progs j hjl]; simp only [List.append_assoc]
           have hl2 : L.length + ((x0 ++ kindL kq) ++ ((kq.progs.take (j + 1)).map progT).flatten).length ≤ 1000000 := by
             have h2 := flat_take (kq.progs.map progT) (j + 1);rw [← List.map_take] at h2;unfold kindT at hll;simp only [List.length_append] at hll ⊢
             omega
           rw [← hfl] at hl2;have HF2 := Lib.hid hfl;clear hfl;obtain ⟨pr, hpr⟩ : ∃ pr, kq.progs[j] = pr := ⟨_, rfl⟩;rw [hpr] at p0 hPr hl2 HF2;clear hpr;obtain ⟨y1, hy1⟩ : ∃ y1, (x0 ++ kindL kq) ++ ((kq.progs.take j).map progT).flatten = y1 := ⟨_, rfl⟩;rw [hy1] at hp hl2 HF2;clear hy1;subst hap
           have t3 : decide ((j : Int) < (kq.progs.length : Int)) = true := by rw [decide_eq_true_eq]; omega
           have t3' : decide (j < kq.progs.length) = true := by simpa using hjl
           have b3 : (0 : Int) ≤ (j : Int) := by omega
           have b4 : (j : Int) < (kq.progs.length : Int) := by omega
           have y2 : IntKind.i64.wrap ((j : Int) + 1) = (j : Int) + 1 := IntWalk.i64_in _ (by omega);have HPI := Lib.hid (print_any pr pj pc N wr (Nat.le_trans hN hwi.size) hPr (hE.up hwi).signs);have HP := Lib.hid hp;clear hp hPr hwi
           go_wp2_with fail
           refine HPI.out.mono ?_;rintro e w3 ⟨rfl, hb3⟩;have hp3 := HP.out.up hb3 hB;have hbs := below_alloc (Below.refl _ w3) (.cells ([wProg, printS pr].map strC).toArray 9);have hpS := hp3.up hbs hB
           have HPT := Lib.hid (put_any B b w3.heap.size 0 2 [wProg, printS pr] (L ++ y1) (w3.alloc (.cells ([wProg, printS pr].map strC).toArray 9)) hpS.txt (strs_cells [wProg, printS pr] (World.alloc_heap_new _ _)) (by simp) (by simp) (by simp) (by unfold progT at hl2; rw [List.length_append] at hl2 ⊢; omega) (Nat.le_trans (Nat.le_trans hBi hb3.size) hbs.size))
           have HPS := Lib.hid hpS;clear hp3 hpS hbs hb3
           go_wp2_with fail
           refine HPT.out.mono ?_;rintro e w4 ⟨⟨v4, rfl⟩, hp4⟩;have hp5 := HPS.out.then hp4;rw [show lineT [wProg, printS pr] = progT pr from rfl, HF2.out] at hp5;have HP5 := Lib.hid hp5;clear hp4 hp5;go_wp2
           go_roundw
           case rel => exact ⟨j + 1, by omega, by go_num, HP5.out⟩
           case measure => simp [intOf]; omega
         · obtain rfl : j = kq.progs.length := by omega
           rw [List.take_length] at hp
           rw [show (x0 ++ kindL kq) ++ (kq.progs.map progT).flatten = x0 ++ kindT kq by unfold kindT; rw [List.append_assoc], HFL.out] at hp
           have HP := Lib.hid hp;clear hp hwi;go_wp2
           go_roundw
           case rel => exact ⟨q + 1, by omega, by go_num, HP.out⟩
           case measure => simp [intOf]; omega
   · obtain rfl : q = ks.length := by omega
     rw [List.take_length] at hp;have HP := Lib.hid hp;clear hp;go_wp2;go_end0;exact ⟨⟨_, rfl⟩, HP.out⟩
end Go.Proofs.YtbmcngoeinginaaGreatDoor
namespace Go.Proofs.YtbmcngoeinginaaGreatDoor
open Go Go.RowKit Go.Lib
attribute [local irreducible] Go.wpQuiet
def resW (j : Nat) : List UInt8 := ([[], [119, 105, 110], [100, 114, 97, 119], [108, 111, 115, 115]] : List (List UInt8))[j]?.getD []
def ResIn (W : World) : Prop := ∀ j, j < 4 → W.cell? ⟨1, j, none⟩ = some (.string ⟨(resW j).toArray⟩)
theorem ResIn.up {w w' : World} (h : ResIn w) (hb : Below w.heap.size w w') : ResIn w' := fun j hj => cell_keep hb (h j hj)
def wLacks : List UInt8 := [108, 97, 99, 107, 115]
def wHolds : List UInt8 := [104, 111, 108, 100, 115]
def wFew : List UInt8 := [102, 101, 119]
def clauseL (cond n : Int) (nm : List UInt8) (oo : Nat) : List (List UInt8) := if cond = 1 then [wLacks, nm, resW oo] else if cond = 2 then [wHolds, nm, itoa n, resW oo] else [wFew, itoa n, resW oo]
structure CC (w : World) (gx cx kb off kk oo : Nat) (v1 : Value) (c1 c2 c3 : Int) (nm : List UInt8) (W : World) : Prop where
 b : Below w.heap.size w W
 g3 : W.cell? ⟨gx, 3, none⟩ = some v1
 k1 : W.cell? ⟨cx, 1, none⟩ = some (.int .i64 c1)
 k2 : W.cell? ⟨cx, 2, none⟩ = some (.int .i64 c2)
 k3 : W.cell? ⟨cx, 3, none⟩ = some (.int .i64 c3)
 nm : W.cell? ⟨kb, off + kk * 3, none⟩ = some (.string ⟨nm.toArray⟩)
 rs : W.cell? ⟨1, oo, none⟩ = some (.string ⟨(resW oo).toArray⟩)
theorem CC.up {w W W' : World} {gx cx kb off kk oo : Nat} {v1 : Value} {c1 c2 c3 : Int} {nm : List UInt8} (h : CC w gx cx kb off kk oo v1 c1 c2 c3 nm W) (hb : Below W.heap.size W W') : CC w gx cx kb off kk oo v1 c1 c2 c3 nm W' :=
 ⟨below_step h.b hb, cell_keep hb h.g3, cell_keep hb h.k1, cell_keep hb h.k2, cell_keep hb h.k3, cell_keep hb h.nm, cell_keep hb h.rs⟩
set_option maxRecDepth 100000 in
set_option maxHeartbeats 3000000 in
theorem putClause_any (w0 : World) (B b : Nat) (kb off kk kl ck oo : Nat) (cond n : Int) (nm : List UInt8) (v0 v1 v2 v4 v5 v6 v7 v8 : Value) (L : List UInt8) (w : World) (hE : LibIn w0) (hR : ResIn w0) (hw : Below w0.heap.size w0 w) (h : Txt B b L w) (hB : B ≤ w.heap.size)
   (hkl : kk < kl) (hnm : w0.cell? ⟨kb, off + kk * 3, none⟩ = some (.string ⟨nm.toArray⟩)) (ho : oo ≤ 3) (hcd : cond = 1 ∨ cond = 2 ∨ cond = 3) (hn : -9223372036854775808 ≤ n ∧ n ≤ 9223372036854775807) (hlen : L.length + (lineT (clauseL cond n nm oo)).length ≤ 1000000) :
   Calls Tryz.prog 73 #[.func (.func 66) #[] #[.pointer (some ⟨b, 0, none⟩)], .agg #[v0, v1, v2, .slice (some ⟨kb, off, none⟩) kl ck, v4, v5, v6, v7, v8], .agg #[.int .i64 cond, .int .i64 (kk : Int), .int .i64 n, .int .i64 (oo : Int)]] w fun e w' => (∃ v, e = .returned v) ∧ Puts B b L (lineT (clauseL cond n nm oo)) w w' := by
 have hbl := h.elim (fun x => x.lt) (fun x => x.lt)
 have hb1 : Below w.heap.size w ((w.alloc (.cells #[v0, v1, v2, .slice (some ⟨kb, off, none⟩) kl ck, v4, v5, v6, v7, v8] 38)).alloc (.cells #[.int .i64 cond, .int .i64 (kk : Int), .int .i64 n, .int .i64 (oo : Int)] 70)) := below_alloc (below_alloc (Below.refl _ _) _) _
 have hg1 : ((w.alloc (.cells #[v0, v1, v2, .slice (some ⟨kb, off, none⟩) kl ck, v4, v5, v6, v7, v8] 38)).alloc (.cells #[.int .i64 cond, .int .i64 (kk : Int), .int .i64 n, .int .i64 (oo : Int)] 70)).cell? ⟨w.heap.size, 3, none⟩ = some (.slice (some ⟨kb, off, none⟩) kl ck) := cell_alloc_keep (cell_new_at _ _ _ _ _ _ rfl rfl) _
 have hc1 : ((w.alloc (.cells #[v0, v1, v2, .slice (some ⟨kb, off, none⟩) kl ck, v4, v5, v6, v7, v8] 38)).alloc (.cells #[.int .i64 cond, .int .i64 (kk : Int), .int .i64 n, .int .i64 (oo : Int)] 70)).heap[w.heap.size + 1]? = some (.cells #[.int .i64 cond, .int .i64 (kk : Int), .int .i64 n, .int .i64 (oo : Int)] 70 (0, 0)) := by
   have := World.alloc_heap_new (w.alloc (.cells #[v0, v1, v2, .slice (some ⟨kb, off, none⟩) kl ck, v4, v5, v6, v7, v8] 38)) (.cells #[.int .i64 cond, .int .i64 (kk : Int), .int .i64 n, .int .i64 (oo : Int)] 70)
   rwa [World.size_alloc] at this
 have hw1 := below_step hw hb1
 have h1 := h.up hb1
 have hB1 := Nat.le_trans hB hb1.size
 have HFIN := Lib.hid (fun (x : List UInt8) W (p : Puts B b L x ((w.alloc (.cells #[v0, v1, v2, .slice (some ⟨kb, off, none⟩) kl ck, v4, v5, v6, v7, v8] 38)).alloc (.cells #[.int .i64 cond, .int .i64 (kk : Int), .int .i64 n, .int .i64 (oo : Int)] 70)) W) => p.after hb1 hB)
 have b3 : (0 : Int) ≤ (kk : Int) := by omega
 have b4 : (kk : Int) < (kl : Int) := by omega
 have b5 : (0 : Int) ≤ (oo : Int) := by omega
 have b6 : (oo : Int) < 4 := by omega
 go_enter Tryz.func73, Tryz.ntmps73
 go_upto_region 1 with (fail)
 obtain ⟨gx, hgx⟩ : ∃ gx, w.heap.size = gx := ⟨_, rfl⟩
 rw [hgx] at hg1 hc1 hbl
 (try simp only [hgx])
 clear hgx
 generalize (w.alloc (.cells #[v0, v1, v2, .slice (some ⟨kb, off, none⟩) kl ck, v4, v5, v6, v7, v8] 38)).alloc (.cells #[.int .i64 cond, .int .i64 (kk : Int), .int .i64 n, .int .i64 (oo : Int)] 70) = w1 at *
 have hd1 : Below w1.heap.size w1 w1.drew := (Below.refl _ w1).drew
 have HI := Lib.hid (fun W (k : Below w1.heap.size w1 W) => itoa_any n hn.1 hn.2 W (hE.up (below_step hw1 k)))
 have hC : CC w1 gx (gx + 1) kb off kk oo (.slice (some ⟨kb, off, none⟩) kl ck) (kk : Int) n (oo : Int) nm w1 := ⟨Below.refl _ _, hg1, bx_cell hc1 1 rfl, bx_cell hc1 2 rfl, bx_cell hc1 3 rfl, cell_keep hw1 hnm, cell_keep hw1 (hR oo (by omega))⟩
 refine wp_region_quiet (C := CC w1 gx (gx + 1) kb off kk oo (.slice (some ⟨kb, off, none⟩) kl ck) (kk : Int) n (oo : Int) nm) (by kernel_rfl) (by kernel_rfl) (hC.up hd1) ?_
 dsimp only
 iterate 9
   refine wpQuiet_val (v := ?_) (by rfl) ?_ ?_;rotate_left
   · ((intro W hW; (try cases hW); go_simp); try with_reducible rfl)
   (try simp only [pS])
 refine wpQuiet_val (v := .string ⟨(itoa n).toArray⟩) (by rfl) (fun W hW => ?_) ?_
 · go_simp
   exact (HI.out W hW.b).mono fun e w' ⟨he, hb⟩ => ⟨he, hW.up hb⟩
 (try simp only [pS])
 iterate 7
   refine wpQuiet_val (v := ?_) (by rfl) ?_ ?_;rotate_left
   · ((intro W hW; (try cases hW); go_simp); try with_reducible rfl)
   (try simp only [pS])
 refine wpQuiet_nil (fun w2 hW => ?_)
 have hb2 := hW.b
 have hc2 := (hb2.block _ (bx_lt hc1)).trans hc1
 have h2 := h1.up hb2
 have hB2 := Nat.le_trans hB1 hb2.size
 clear hW hC hg1 hc1 HI hd1
 have q0 := bx_cell hc2 0 rfl
 rcases hcd with rfl | rfl | rfl
 · have HCL : Hid (clauseL 1 n nm oo = [wLacks, nm, resW oo]) := Lib.hid (by unfold clauseL; simp)
   rw [HCL.out] at hlen;have hbs := below_alloc (Below.refl _ w2) (.cells ([wLacks, nm, resW oo].map strC).toArray 9);have HPT := Lib.hid (put_any B b w2.heap.size 0 3 [wLacks, nm, resW oo] L (w2.alloc (.cells ([wLacks, nm, resW oo].map strC).toArray 9)) (h2.up hbs) (strs_cells [wLacks, nm, resW oo] (World.alloc_heap_new _ _)) (by simp) (by simp) (by simp) hlen (Nat.le_trans hB2 hbs.size));have HB2 := Lib.hid (below_step hb2 hbs);clear hbs hc2
   go_wp2_with fail
   refine HPT.out.mono ?_;rintro e w4 ⟨⟨v9, rfl⟩, hp4⟩;have HP5 := Lib.hid (HFIN.out _ _ (Puts.after HB2.out hB1 hp4));clear hp4 q0;go_wp2;go_end0
   exact ⟨⟨_, rfl⟩, by rw [HCL.out]; exact HP5.out⟩
 · have HCL : Hid (clauseL 2 n nm oo = [wHolds, nm, itoa n, resW oo]) := Lib.hid (by unfold clauseL; simp)
   rw [HCL.out] at hlen;have hbs := below_alloc (Below.refl _ w2) (.cells ([wHolds, nm, itoa n, resW oo].map strC).toArray 9);have HPT := Lib.hid (put_any B b w2.heap.size 0 4 [wHolds, nm, itoa n, resW oo] L (w2.alloc (.cells ([wHolds, nm, itoa n, resW oo].map strC).toArray 9)) (h2.up hbs) (strs_cells [wHolds, nm, itoa n, resW oo] (World.alloc_heap_new _ _)) (by simp) (by simp) (by simp) hlen (Nat.le_trans hB2 hbs.size));have HB2 := Lib.hid (below_step hb2 hbs);clear hbs hc2
   go_wp2_with fail
   refine HPT.out.mono ?_;rintro e w4 ⟨⟨v9, rfl⟩, hp4⟩;have HP5 := Lib.hid (HFIN.out _ _ (Puts.after HB2.out hB1 hp4));clear hp4 q0;go_wp2;go_end0
   exact ⟨⟨_, rfl⟩, by rw [HCL.out]; exact HP5.out⟩
 · have HCL : Hid (clauseL 3 n nm oo = [wFew, itoa n, resW oo]) := Lib.hid (by unfold clauseL; simp)
   rw [HCL.out] at hlen;have hbs := below_alloc (Below.refl _ w2) (.cells ([wFew, itoa n, resW oo].map strC).toArray 9);have HPT := Lib.hid (put_any B b w2.heap.size 0 3 [wFew, itoa n, resW oo] L (w2.alloc (.cells ([wFew, itoa n, resW oo].map strC).toArray 9)) (h2.up hbs) (strs_cells [wFew, itoa n, resW oo] (World.alloc_heap_new _ _)) (by simp) (by simp) (by simp) hlen (Nat.le_trans hB2 hbs.size));have HB2 := Lib.hid (below_step hb2 hbs);clear hbs hc2
   go_wp2_with fail
   refine HPT.out.mono ?_;rintro e w4 ⟨⟨v9, rfl⟩, hp4⟩;have HP5 := Lib.hid (HFIN.out _ _ (Puts.after HB2.out hB1 hp4));clear hp4 q0;go_wp2;go_end0
   exact ⟨⟨_, rfl⟩, by rw [HCL.out]; exact HP5.out⟩
end Go.Proofs.YtbmcngoeinginaaGreatDoor
namespace Go.Proofs.YtbmcngoeinginaaGreatDoor
open Go Go.RowKit Go.Lib
def wRights : List UInt8 := [114, 105, 103, 104, 116, 115]
def wMust : List UInt8 := [109, 117, 115, 116]
def wBlocked : List UInt8 := [98, 108, 111, 99, 107, 101, 100]
def wEndless : List UInt8 := [101, 110, 100, 108, 101, 115, 115]
def kindNm (g : GameD) (k : Int) : List UInt8 := (g.kinds[k.toNat]?.getD ⟨[], [], false⟩).name
def clauseT (g : GameD) (c : ClauseD) : List UInt8 := lineT (clauseL c.cond c.n (kindNm g c.kind) c.out.toNat)
def mustT (g : GameD) : List UInt8 := if g.must = true then lineT [wMust] else []
def writtenG (g : GameD) : List UInt8 := boardT g.b ++ (kindsT g.kinds ++ (lineT [wRights, itoa g.rights] ++ (mustT g ++ ((g.clauses.map (clauseT g)).flatten ++ (lineT [wBlocked, resW g.blocked.toNat] ++ lineT [wEndless, resW g.endless.toNat])))))
theorem join_le (M : Nat) (xs : List (List UInt8)) (h : ∀ x ∈ xs, x.length ≤ M) : (Lib.join xs [32]).length ≤ xs.length * (M + 1) := by
 unfold Lib.join
 induction xs with
 | nil => simp [List.intercalate]
 | cons x xs ih =>
   have hx := h x (by simp);have ih2 := ih (fun y hy => h y (by simp [hy]))
   cases xs with
   | nil => simp [List.intercalate, List.intersperse]; omega
   | cons y ys =>
     simp only [List.intercalate, List.intersperse, List.flatten_cons, List.length_append, List.length_cons, List.length_nil] at ih2 ⊢;rw [Nat.add_mul, Nat.one_mul];rw [Nat.add_mul, Nat.one_mul] at ih2 ⊢
     omega
theorem lineT_le (M n : Nat) (xs : List (List UInt8)) (h : ∀ x ∈ xs, x.length ≤ M) (hn : xs.length ≤ n) : (lineT xs).length ≤ n * (M + 1) + 1 := by
 unfold lineT
 have h1 := join_le M xs h
 have h2 : xs.length * (M + 1) ≤ n * (M + 1) := Nat.mul_le_mul_right _ hn
 rw [List.length_append]
 simp only [List.length_cons, List.length_nil]
 omega
theorem flat_le (M n : Nat) (l : List (List UInt8)) (h : ∀ x ∈ l, x.length ≤ M) (hn : l.length ≤ n) : l.flatten.length ≤ n * M := by
 have : l.flatten.length ≤ l.length * M := by
   induction l with
   | nil => simp
   | cons x l ih =>
     have hx := h x (by simp)
     have ih2 := ih (fun y hy => h y (by simp [hy])) (by simp at hn; omega)
     rw [List.flatten_cons, List.length_append, List.length_cons, Nat.add_mul, Nat.one_mul]
     omega
 exact Nat.le_trans this (Nat.mul_le_mul_right _ hn)
structure Bounds (g : GameD) : Prop where
 cells : 1 ≤ g.b.cells ∧ g.b.cells ≤ 64
 next : g.b.next.length ≤ 8
 row : ∀ r ∈ g.b.next, r.length ≤ 64 ∧ ∀ x ∈ r, -1 ≤ x ∧ x ≤ 64
 turn : g.b.turn.length ≤ 8
 tin : ∀ x ∈ g.b.turn, 0 ≤ x ∧ x ≤ 8
 kinds : 1 ≤ g.kinds.length ∧ g.kinds.length ≤ 6
 kind : ∀ k ∈ g.kinds, k.name.length ≤ 8 ∧ k.progs.length ≤ 8
 rights : 0 ≤ g.rights ∧ g.rights ≤ 4
 clauses : g.clauses.length ≤ 6
 clause : ∀ c ∈ g.clauses, clauseB g c = true
 blocked : 1 ≤ g.blocked ∧ g.blocked ≤ 3
 endless : 1 ≤ g.endless ∧ g.endless ≤ 3
theorem resB_in {n : Int} (h : resB n = true) : 1 ≤ n ∧ n ≤ 3 := by
 unfold resB at h
 rwa [Bool.and_eq_true, decide_eq_true_eq, decide_eq_true_eq] at h
theorem validG_bounds {g : GameD} (h : validG g = true) : Bounds g := by
 unfold validG at h
 simp only [Bool.and_eq_true, decide_eq_true_eq] at h
 obtain ⟨hb, hk, hr0, hr1, hc, hbl, hen⟩ := h
 unfold validS at hb
 simp only [Bool.and_eq_true, decide_eq_true_eq] at hb
 obtain ⟨⟨⟨⟨⟨c1, c2⟩, n1⟩, n2⟩, hrows⟩, htu⟩ := hb
 unfold kindsB at hk
 simp only [Bool.and_eq_true, decide_eq_true_eq] at hk
 obtain ⟨k1, k2, kall⟩ := hk
 unfold clausesB at hc
 simp only [Bool.and_eq_true, decide_eq_true_eq] at hc
 obtain ⟨cl1, cl2⟩ := hc
 unfold turnS at htu
 simp only [Bool.and_eq_true, decide_eq_true_eq] at htu
 obtain ⟨t1, t2⟩ := htu
 refine ⟨⟨c1, c2⟩, n2, fun r hr => ?_, by omega, fun x hx => ?_, ⟨k1, k2⟩, fun k hk => ?_, ⟨hr0, hr1⟩, cl1, fun c hc => ?_, resB_in hbl, resB_in hen⟩
 · have := List.all_eq_true.1 hrows r hr
   unfold rowOk at this;rw [Bool.and_eq_true, decide_eq_true_eq, Bool.not_eq_true'] at this;refine ⟨by omega, fun x hx => ?_⟩;have h2 := List.any_eq_false.1 this.2 x hx;unfold outS at h2;simp only [Bool.or_eq_true, decide_eq_true_eq, not_or] at h2
   omega
 · obtain ⟨i, hi, rfl⟩ := List.mem_iff_getElem.1 hx
   have h2 := List.all_eq_true.1 t2 i (List.mem_range.2 (by omega));unfold okTurn at h2;simp only [Bool.and_eq_true, decide_eq_true_eq] at h2;rw [List.getElem?_eq_getElem hi, Option.getD_some] at h2
   omega
 · obtain ⟨i, hi, rfl⟩ := List.mem_iff_getElem.1 hk
   have h2 := List.all_eq_true.1 kall i (List.mem_range.2 hi);unfold kindAt at h2;rw [List.getElem?_eq_getElem hi, Option.getD_some] at h2;unfold kindB nameB progsB at h2;simp only [Bool.and_eq_true, decide_eq_true_eq] at h2;exact ⟨h2.1.2.1, h2.2.2.1⟩
 · rw [Bool.not_eq_true'] at cl2
   have h2 := List.any_eq_false.1 cl2 c hc;unfold wrongC at h2
   simpa using h2
theorem itoa_le (n : Int) (h0 : -9223372036854775808 ≤ n) (h1 : n ≤ 9223372036854775807) : (itoa n).length ≤ 21 := itoa_length_le n h0 h1
theorem printS_le (l : List (Int × Int)) : (printS l).length ≤ 300 := by
 unfold printS
 split
 · rename_i hv
   unfold validP at hv;simp only [Bool.and_eq_true, decide_eq_true_eq] at hv;have hl := hv.2.1;have hall := hv.2.2.1
   have h1 : ∀ x ∈ l.map writtenS, x.length ≤ 27 := by
     intro x hx;obtain ⟨y, hy, rfl⟩ := List.mem_map.1 hx;have h2 := List.all_eq_true.1 hall y hy;unfold okStep limS at h2;simp only [Bool.and_eq_true, decide_eq_true_eq] at h2;have hw := word_len y.1.toNat
     have hi := itoa_le y.2 (by omega) (by have := h2.2.2; repeat' (split at this); all_goals omega)
     unfold writtenS
     split <;> simp only [List.length_append, List.length_nil] <;> omega
   have h3 := join_le 27 _ h1;rw [List.length_map] at h3;have h4 : l.length * (27 + 1) ≤ 8 * (27 + 1) := Nat.mul_le_mul_right _ hl
   omega
 · simp
theorem resW_le (j : Nat) : (resW j).length ≤ 4 := by
 unfold resW
 rcases j with _ | _ | _ | _ | j <;> simp
theorem written_le {g : GameD} (h : Bounds g) : (writtenG g).length ≤ 100000 := by
 have hI : ∀ n : Int, -1000 ≤ n → n ≤ 1000 → (itoa n).length ≤ 21 := fun n a b => itoa_le n (by omega) (by omega)
 have hcl := h.cells
 have hri := h.rights
 have hnx := h.next
 have b1 : (lineT [wBoard, itoa g.b.cells, itoa (g.b.next.length : Int)]).length ≤ 3 * (21 + 1) + 1 := lineT_le 21 3 _ (by
   intro x hx;simp only [List.mem_cons, List.not_mem_nil, or_false] at hx
   rcases hx with rfl | rfl | rfl
   · decide
   · exact hI _ (by omega) (by omega)
   · exact hI _ (by omega) (by omega)) (by simp)
 have b2 : ((g.b.next.map dirT).flatten).length ≤ 8 * 1431 := flat_le 1431 8 _ (by
   intro x hx;obtain ⟨r, hr, rfl⟩ := List.mem_map.1 hx;have hrr := h.row r hr;unfold dirT
   exact lineT_le 21 65 _ (by
     intro y hy
     rcases List.mem_cons.1 hy with rfl | hy
     · decide
     · obtain ⟨z, hz, rfl⟩ := List.mem_map.1 hy
       have := hrr.2 z hz
       exact hI _ (by omega) (by omega)) (by simp; omega)) (by rw [List.length_map]; exact hnx)
 have b3 : (lineT (wTurn :: g.b.turn.map itoa)).length ≤ 9 * (21 + 1) + 1 := lineT_le 21 9 _ (by
     intro y hy
     rcases List.mem_cons.1 hy with rfl | hy
     · decide
     · obtain ⟨z, hz, rfl⟩ := List.mem_map.1 hy
       have := h.tin z hz
       exact hI _ (by omega) (by omega)) (by have := h.turn; simp; omega)
 have b4 : (kindsT g.kinds).length ≤ 6 * 5000 := by
   unfold kindsT
   refine flat_le 5000 6 _ (fun x hx => ?_) (by rw [List.length_map]; exact h.kinds.2)
   obtain ⟨k, hk, rfl⟩ := List.mem_map.1 hx;have hkk := h.kind k hk;unfold kindT
   have c1 : (kindL k).length ≤ 3 * (8 + 1) + 1 := by
     unfold kindL
     refine lineT_le 8 3 _ (fun y hy => ?_) (by split <;> simp)
     split at hy
     · simp only [List.mem_cons, List.not_mem_nil, or_false] at hy
       rcases hy with rfl | rfl | rfl
       · decide
       · exact hkk.1
       · decide
     · simp only [List.mem_cons, List.not_mem_nil, or_false] at hy
       rcases hy with rfl | rfl
       · decide
       · exact hkk.1
   have c2 : ((k.progs.map progT).flatten).length ≤ 8 * 603 := flat_le 603 8 _ (by
     intro y hy;obtain ⟨p, hp, rfl⟩ := List.mem_map.1 hy;unfold progT
     exact lineT_le 300 2 _ (by
       intro z hz;simp only [List.mem_cons, List.not_mem_nil, or_false] at hz
       rcases hz with rfl | rfl
       · decide
       · exact printS_le _) (by simp)) (by rw [List.length_map]; exact hkk.2)
   rw [List.length_append]; omega
 have b5 : (lineT [wRights, itoa g.rights]).length ≤ 2 * (21 + 1) + 1 := lineT_le 21 2 _ (by
   intro x hx;simp only [List.mem_cons, List.not_mem_nil, or_false] at hx
   rcases hx with rfl | rfl
   · decide
   · exact hI _ (by omega) (by omega)) (by simp)
 have b6 : (mustT g).length ≤ 1 * (4 + 1) + 1 := by
   unfold mustT
   split
   · exact lineT_le 4 1 _ (by
       intro x hx;simp only [List.mem_cons, List.not_mem_nil, or_false] at hx
       subst hx; decide) (by simp)
   · simp
 have hnm : ∀ k : Int, (kindNm g k).length ≤ 8 := by
   intro k;unfold kindNm
   by_cases hk : k.toNat < g.kinds.length
   · rw [List.getElem?_eq_getElem hk, Option.getD_some]; exact (h.kind _ (List.getElem_mem hk)).1
   · rw [List.getElem?_eq_none (by omega)]; simp
 have b7 : ((g.clauses.map (clauseT g)).flatten).length ≤ 6 * 89 := flat_le 89 6 _ (by
   intro x hx;obtain ⟨c, hc, rfl⟩ := List.mem_map.1 hx;have hcb := h.clause c hc
   have hn : (itoa c.n).length ≤ 21 := by
     unfold clauseB rightB at hcb;rw [Bool.and_eq_true] at hcb;have h2 := hcb.2
     have h3 : -1000 ≤ c.n ∧ c.n ≤ 1000 := by
       split at h2
       · simp only [Bool.and_eq_true, decide_eq_true_eq] at h2; omega
       · split at h2
         · simp only [Bool.and_eq_true, decide_eq_true_eq] at h2; omega
         · split at h2
           · simp only [Bool.and_eq_true, decide_eq_true_eq] at h2; omega
           · cases h2
     exact hI _ h3.1 h3.2
   unfold clauseT
   refine lineT_le 21 4 _ (fun y hy => ?_) (by unfold clauseL; (repeat' split) <;> simp)
   have r1 := resW_le c.out.toNat;have r2 := hnm c.kind;unfold clauseL at hy
   (repeat' (split at hy))
   all_goals simp only [List.mem_cons, List.not_mem_nil, or_false] at hy
   · rcases hy with rfl | rfl | rfl
     · decide
     · omega
     · omega
   · rcases hy with rfl | rfl | rfl | rfl
     · decide
     · omega
     · exact hn
     · omega
   · rcases hy with rfl | rfl | rfl
     · decide
     · exact hn
     · omega) (by rw [List.length_map]; exact h.clauses)
 have b8 : (lineT [wBlocked, resW g.blocked.toNat]).length ≤ 2 * (21 + 1) + 1 := lineT_le 21 2 _ (by
   intro x hx;have r1 := resW_le g.blocked.toNat;simp only [List.mem_cons, List.not_mem_nil, or_false] at hx
   rcases hx with rfl | rfl
   · decide
   · omega) (by simp)
 have b9 : (lineT [wEndless, resW g.endless.toNat]).length ≤ 2 * (21 + 1) + 1 := lineT_le 21 2 _ (by
   intro x hx;have r1 := resW_le g.endless.toNat;simp only [List.mem_cons, List.not_mem_nil, or_false] at hx
   rcases hx with rfl | rfl
   · decide
   · omega) (by simp)
 unfold writtenG boardT
 simp only [List.length_append]
 omega
end Go.Proofs.YtbmcngoeinginaaGreatDoor
namespace Go.Proofs.YtbmcngoeinginaaGreatDoor
open Go Go.RowKit Go.Lib
set_option maxRecDepth 100000 in
set_option maxHeartbeats 4000000 in
theorem gwritten_by (g : GameD) (an at_ ak ac : Option Addr) (cn ct ck pcc N : Nat) (w : World) (hN : N ≤ w.heap.size) (hH : Held N w an at_ g.b) (hK : KindsIn N w ak g.kinds) (hCL : ClausesIn N w ac g.clauses) (hE : LibIn w) (hR : ResIn w) (hv : Bounds g) :
   Calls Tryz.prog 38 #[.agg #[.int .i64 g.b.cells, .slice an g.b.next.length cn, .slice at_ g.b.turn.length ct, .slice ak g.kinds.length ck, .int .i64 g.rights, .bool g.must, .slice ac g.clauses.length pcc, .int .i64 g.blocked, .int .i64 g.endless]] w fun e w' => e = .returned (.string ⟨(writtenG g).toArray⟩) ∧ Below w.heap.size w w' := by
 have hlen := written_le hv
 have hb2 : Below w.heap.size w ((w.alloc (.cells #[.int .i64 g.b.cells, .slice an g.b.next.length cn, .slice at_ g.b.turn.length ct, .slice ak g.kinds.length ck, .int .i64 g.rights, .bool g.must, .slice ac g.clauses.length pcc, .int .i64 g.blocked, .int .i64 g.endless] 38)).alloc (.cells #[.pointer none, .slice none 0 0] 120)) := below_alloc (below_alloc (Below.refl _ _) _) _
 have hbox : ((w.alloc (.cells #[.int .i64 g.b.cells, .slice an g.b.next.length cn, .slice at_ g.b.turn.length ct, .slice ak g.kinds.length ck, .int .i64 g.rights, .bool g.must, .slice ac g.clauses.length pcc, .int .i64 g.blocked, .int .i64 g.endless] 38)).alloc (.cells #[.pointer none, .slice none 0 0] 120)).heap[w.heap.size]? = some (.cells #[.int .i64 g.b.cells, .slice an g.b.next.length cn, .slice at_ g.b.turn.length ct, .slice ak g.kinds.length ck, .int .i64 g.rights, .bool g.must, .slice ac g.clauses.length pcc, .int .i64 g.blocked, .int .i64 g.endless] 38 (0, 0)) := (Below.heap_alloc _ _ _ (by rw [World.size_alloc]; omega)).trans (World.alloc_heap_new _ _)
 have hT : Txt (w.heap.size + 1) (w.heap.size + 1) [] ((w.alloc (.cells #[.int .i64 g.b.cells, .slice an g.b.next.length cn, .slice at_ g.b.turn.length ct, .slice ak g.kinds.length ck, .int .i64 g.rights, .bool g.must, .slice ac g.clauses.length pcc, .int .i64 g.blocked, .int .i64 g.endless] 38)).alloc (.cells #[.pointer none, .slice none 0 0] 120)) := by
   have := Lib.IsBuilderF.of (Lib.fresh_isBuilder 120 5 (w.alloc (.cells #[.int .i64 g.b.cells, .slice an g.b.next.length cn, .slice at_ g.b.turn.length ct, .slice ak g.kinds.length ck, .int .i64 g.rights, .bool g.must, .slice ac g.clauses.length pcc, .int .i64 g.blocked, .int .i64 g.endless] 38)));rw [World.size_alloc] at this;exact this
 have hs2 : ((w.alloc (.cells #[.int .i64 g.b.cells, .slice an g.b.next.length cn, .slice at_ g.b.turn.length ct, .slice ak g.kinds.length ck, .int .i64 g.rights, .bool g.must, .slice ac g.clauses.length pcc, .int .i64 g.blocked, .int .i64 g.endless] 38)).alloc (.cells #[.pointer none, .slice none 0 0] 120)).heap.size = w.heap.size + 2 := by simp
 go_enter Tryz.func38, Tryz.ntmps38
 go_upto_region 3 with (fail)
 generalize (Value.agg #[.int .i64 g.b.cells, .slice an g.b.next.length cn, .slice at_ g.b.turn.length ct, .slice ak g.kinds.length ck, .int .i64 g.rights, .bool g.must, .slice ac g.clauses.length pcc, .int .i64 g.blocked, .int .i64 g.endless]) = GV
 obtain ⟨B, hBe⟩ : ∃ B, w.heap.size + 1 = B := ⟨_, rfl⟩
 have hB0 : w.heap.size ≤ B := by omega
 have hGB : w.heap.size ≠ B := by omega
 rw [hBe] at hT
 (try simp only [hBe])
 have hB2 : B ≤ ((w.alloc (.cells #[.int .i64 g.b.cells, .slice an g.b.next.length cn, .slice at_ g.b.turn.length ct, .slice ak g.kinds.length ck, .int .i64 g.rights, .bool g.must, .slice ac g.clauses.length pcc, .int .i64 g.blocked, .int .i64 g.endless] 38)).alloc (.cells #[.pointer none, .slice none 0 0] 120)).heap.size := by omega
 generalize ((w.alloc (.cells #[.int .i64 g.b.cells, .slice an g.b.next.length cn, .slice at_ g.b.turn.length ct, .slice ak g.kinds.length ck, .int .i64 g.rights, .bool g.must, .slice ac g.clauses.length pcc, .int .i64 g.blocked, .int .i64 g.endless] 38)).alloc (.cells #[.pointer none, .slice none 0 0] 120)) = w2 at *
 clear hs2 hBe
 have HGX := Lib.hid (fun (y : List UInt8) W (p : Puts B B [] y w2 W) => p.block hbox hGB (by decide))
 have HWW := Lib.hid (fun (y : List UInt8) W (p : Puts B B [] y w2 W) => hb2.trans (p.low.mono hB0))
 have HFIN := Lib.hid (fun (y : List UInt8) W (p : Puts B B [] y w2 W) => hb2.trans (p.low.mono hB0))
 have g0 := bx_cell hbox 0 rfl
 have g1 := bx_cell hbox 1 rfl
 have g2 := bx_cell hbox 2 rfl
 have g3 := bx_cell hbox 3 rfl
 have g4 := bx_cell hbox 4 rfl
 have g5 := bx_cell hbox 5 rfl
 have g6 := bx_cell hbox 6 rfl
 have g7 := bx_cell hbox 7 rfl
 have g8 := bx_cell hbox 8 rfl
 have HL := Lib.hid (show (writtenG g).length ≤ 100000 from hlen)
 have hl2 : ∀ (a b c : List UInt8), writtenG g = a ++ (b ++ c) → ([] ++ a : List UInt8).length + b.length ≤ 1000000 := by
   intro a b c h;have := congrArg List.length h;simp only [List.length_append] at this ⊢
   simp
   omega
 have HL2 := Lib.hid hl2
 clear hl2 hlen
 have HPB := Lib.hid (putBoard_any w B B N g.b an at_ cn ct [] w2 hE hN hH hB0 hb2 hT hB2 (by have := hv.cells; omega) (by have := hv.next; omega) (fun r hr => ⟨by have := (hv.row r hr).1; omega, fun y hy => by have := (hv.row r hr).2 y hy; omega⟩) (by have := hv.turn; omega) (fun y hy => by have := hv.tin y hy; omega) (HL2.out [] (boardT g.b) _ (by unfold writtenG; rw [List.nil_append])))
 clear hbox hT
 go_wp2_with fail
 refine HPB.out.mono ?_
 rintro e w3 ⟨⟨v3, rfl⟩, hp3⟩
 clear g0 g1 g2 g3 g4 g5 g6 g7 g8 HPB
 have hg := HGX.out _ _ hp3
 have g0 := bx_cell hg 0 rfl
 have g1 := bx_cell hg 1 rfl
 have g2 := bx_cell hg 2 rfl
 have g3 := bx_cell hg 3 rfl
 have g4 := bx_cell hg 4 rfl
 have g5 := bx_cell hg 5 rfl
 have g6 := bx_cell hg 6 rfl
 have g7 := bx_cell hg 7 rfl
 have g8 := bx_cell hg 8 rfl
 have HPK := Lib.hid (putKinds_any w B B N g.kinds ak ck ([] ++ boardT g.b) w3 hE hN hK hB0 (HWW.out _ _ hp3) hp3.txt (Nat.le_trans hB2 hp3.low.size) (by have := hv.kinds; omega) (fun k hk => by have := hv.kind k hk; omega) (HL2.out (boardT g.b) (kindsT g.kinds) _ (by unfold writtenG; rfl)))
 have HP3 := Lib.hid hp3
 clear hp3 hg
 go_wp2_with fail
 refine HPK.out.mono ?_
 rintro e w4 ⟨⟨v4, rfl⟩, hp4⟩
 have hp4' := HP3.out.then hp4
 clear g0 g1 g2 g3 g4 g5 g6 g7 g8 HPK hp4
 have hg := HGX.out _ _ hp4'
 have g0 := bx_cell hg 0 rfl
 have g1 := bx_cell hg 1 rfl
 have g2 := bx_cell hg 2 rfl
 have g3 := bx_cell hg 3 rfl
 have g4 := bx_cell hg 4 rfl
 have g5 := bx_cell hg 5 rfl
 have g6 := bx_cell hg 6 rfl
 have g7 := bx_cell hg 7 rfl
 have g8 := bx_cell hg 8 rfl
 have HIT := Lib.hid (itoa_any g.rights (by have := hv.rights; omega) (by have := hv.rights; omega) w4 (hE.up (HWW.out _ _ hp4')))
 have HP4 := Lib.hid hp4'
 clear hp4' hg
 go_wp2_with fail
 refine HIT.out.mono ?_
 rintro e w5 ⟨rfl, hb5⟩
 have HP5 := Lib.hid (HP4.out.up hb5 hB2)
 clear g0 g1 g2 g3 g4 g5 g6 g7 g8 HIT hb5
 have hbs := below_alloc (Below.refl _ w5) (.cells ([wRights, itoa g.rights].map strC).toArray 9)
 have hpS := HP5.out.up hbs hB2
 have HPT := Lib.hid (put_any B B w5.heap.size 0 2 [wRights, itoa g.rights] ([] ++ (boardT g.b ++ kindsT g.kinds)) (w5.alloc (.cells ([wRights, itoa g.rights].map strC).toArray 9)) hpS.txt (strs_cells [wRights, itoa g.rights] (World.alloc_heap_new _ _)) (by simp) (by simp) (by simp) (HL2.out (boardT g.b ++ kindsT g.kinds) (lineT [wRights, itoa g.rights]) _ (by unfold writtenG; simp only [List.append_assoc]; rfl)) (Nat.le_trans hB2 hpS.low.size))
 have HPS := Lib.hid hpS
 clear hbs hpS
 go_wp2_with fail
 refine HPT.out.mono ?_
 rintro e w6 ⟨⟨vq, rfl⟩, hpq⟩
 have HP6 := Lib.hid (HPS.out.then hpq)
 clear hpq HPT HPS
 have hg := HGX.out _ _ HP6.out
 have g0 := bx_cell hg 0 rfl
 have g1 := bx_cell hg 1 rfl
 have g2 := bx_cell hg 2 rfl
 have g3 := bx_cell hg 3 rfl
 have g4 := bx_cell hg 4 rfl
 have g5 := bx_cell hg 5 rfl
 have g6 := bx_cell hg 6 rfl
 have g7 := bx_cell hg 7 rfl
 have g8 := bx_cell hg 8 rfl
 clear hg
 go_upto_if 23 with (fail)
 clear g0 g1 g2 g3 g4 g5 g6 g7 g8
 go_cut [] from 22 to 26 (fun wx => Puts B B [] ((boardT g.b ++ kindsT g.kinds ++ lineT [wRights, itoa g.rights]) ++ mustT g) w2 wx)
 case first =>
   cases hm : g.must with
   | true =>
     have HM : Hid (mustT g = lineT [wMust]) := Lib.hid (by unfold mustT; rw [hm]; rfl)
     clear hm;have hbs := below_alloc (Below.refl _ w6) (.cells ([wMust].map strC).toArray 9);have hpS := HP6.out.up hbs hB2
     have HPT := Lib.hid (put_any B B w6.heap.size 0 1 [wMust] ([] ++ (boardT g.b ++ kindsT g.kinds ++ lineT [wRights, itoa g.rights])) (w6.alloc (.cells ([wMust].map strC).toArray 9)) hpS.txt (strs_cells [wMust] (World.alloc_heap_new _ _)) (by simp) (by simp) (by simp) (by rw [← HM.out]; exact HL2.out (boardT g.b ++ kindsT g.kinds ++ lineT [wRights, itoa g.rights]) (mustT g) _ (by unfold writtenG; simp only [List.append_assoc]; rfl)) (Nat.le_trans hB2 hpS.low.size))
     have HPS := Lib.hid hpS;clear hbs hpS
     go_wp2_with fail
     refine HPT.out.mono ?_;rintro e w7 ⟨⟨vq, rfl⟩, hpq⟩;have HP7 := Lib.hid (HPS.out.then hpq);clear hpq HPT HPS
     go_wp2_with fail
     go_meet
     rw [HM.out];exact HP7.out
   | false =>
     have HM : Hid (mustT g = []) := Lib.hid (by unfold mustT; rw [hm]; rfl)
     clear hm
     go_wp2_with fail
     go_meet
     rw [HM.out, List.append_nil];exact HP6.out
 case rest =>
   have hp7 : Puts B B [] ((boardT g.b ++ kindsT g.kinds ++ lineT [wRights, itoa g.rights]) ++ mustT g) w2 wc := hcut;clear hcut;generalize wc = w7 at *;clear HP6
   obtain ⟨bl, hbl⟩ := Int.eq_ofNat_of_zero_le (show 0 ≤ g.blocked by have := hv.blocked; omega)
   obtain ⟨en, hen⟩ := Int.eq_ofNat_of_zero_le (show 0 ≤ g.endless by have := hv.endless; omega)
   have hbl3 : bl < 4 := by have := hv.blocked; omega
   have hen3 : en < 4 := by have := hv.endless; omega
   obtain ⟨y0, hy0⟩ : ∃ y0, (boardT g.b ++ kindsT g.kinds ++ lineT [wRights, itoa g.rights]) ++ mustT g = y0 := ⟨_, rfl⟩
   have HWG : Hid (writtenG g = y0 ++ ((g.clauses.map (clauseT g)).flatten ++ ((lineT [wBlocked, resW bl]) ++ (lineT [wEndless, resW en])))) := Lib.hid (by
     rw [← hy0, show bl = g.blocked.toNat by omega, show en = g.endless.toNat by omega];unfold writtenG;simp only [List.append_assoc])
   rw [hy0] at hp7;clear hy0;have HBL := Lib.hid hbl;have HEN := Lib.hid hen;clear hbl hen;have hg := HGX.out _ _ hp7;have g0 := bx_cell hg 0 rfl;have g1 := bx_cell hg 1 rfl;have g2 := bx_cell hg 2 rfl;have g3 := bx_cell hg 3 rfl;have g4 := bx_cell hg 4 rfl;have g5 := bx_cell hg 5 rfl;have g6 := bx_cell hg 6 rfl;have g7 := bx_cell hg 7 rfl;have g8 := bx_cell hg 8 rfl;have HP7 := Lib.hid hp7;clear hp7 hg
   go_wp2_with fail
   clear g0 g1 g2 g3 g4 g5 g6 g7 g8
   go_loopw [30, 6] (fun v30 _ wr => ∃ q : Nat, q ≤ g.clauses.length ∧ v30 = .int .i64 (q : Int) ∧ Puts B B [] (y0 ++ ((g.clauses.take q).map (clauseT g)).flatten) w2 wr) (fun v30 _ _ => (g.clauses.length - intOf v30).toNat)
   case atStart => exact ⟨0, Nat.zero_le _, rfl, by simpa using HP7.out⟩
   case round =>
     clear HP7;obtain ⟨q, hq, rfl, hp⟩ := hrel;have hwr := HWW.out _ _ hp;have hBr := Nat.le_trans hB2 hp.low.size
     by_cases hlt : q < g.clauses.length
     · obtain ⟨cb, coff, hac, hcn, z0', z1', z2', z3'⟩ := hCL.at_ hlt
       have hcb := hv.clause _ (List.getElem_mem hlt)
       have hfl : (y0 ++ ((g.clauses.take q).map (clauseT g)).flatten) ++ clauseT g g.clauses[q] = y0 ++ ((g.clauses.take (q + 1)).map (clauseT g)).flatten := by rw [flat_succ (clauseT g) g.clauses q hlt, List.append_assoc]
       have hll : (y0 ++ ((g.clauses.take q).map (clauseT g)).flatten).length + (clauseT g g.clauses[q]).length ≤ 100000 := by
         have h1 := congrArg List.length hfl;have h2 := flat_take (g.clauses.map (clauseT g)) (q + 1);rw [← List.map_take] at h2;have h3 := congrArg List.length HWG.out;have h4 := HL.out;simp only [List.length_append] at h1 h3 ⊢
         omega
       have HFL := Lib.hid hfl;clear hfl;obtain ⟨cc, hcc⟩ : ∃ cc, g.clauses[q] = cc := ⟨_, rfl⟩;rw [hcc] at z0' z1' z2' z3' hcb hll HFL;clear hcc;obtain ⟨yq, hyq⟩ : ∃ yq, y0 ++ ((g.clauses.take q).map (clauseT g)).flatten = yq := ⟨_, rfl⟩;rw [hyq] at hp hll HFL;clear hyq;have hkl1 := hv.kinds
       obtain ⟨hck, hco, hcd, hcn2⟩ : (0 ≤ cc.kind ∧ cc.kind < (g.kinds.length : Int)) ∧ (1 ≤ cc.out ∧ cc.out ≤ 3) ∧ (cc.cond = 1 ∨ cc.cond = 2 ∨ cc.cond = 3) ∧ (0 ≤ cc.n ∧ cc.n ≤ 64) := by
         unfold clauseB rightB at hcb;rw [Bool.and_eq_true] at hcb;have h1 := resB_in hcb.1;have h2 := hcb.2;have h5 := hv.cells
         split at h2
         · simp only [Bool.and_eq_true, decide_eq_true_eq] at h2; omega
         · split at h2
           · simp only [Bool.and_eq_true, decide_eq_true_eq] at h2; omega
           · split at h2
             · simp only [Bool.and_eq_true, decide_eq_true_eq] at h2; omega
             · cases h2
       obtain ⟨kk, hkk⟩ := Int.eq_ofNat_of_zero_le hck.1;obtain ⟨oo, hoo⟩ := Int.eq_ofNat_of_zero_le (show 0 ≤ cc.out by omega)
       have hkl : kk < g.kinds.length := by omega
       obtain ⟨kb, koff, kj, kc, hak, hkn, k0', -, -, -⟩ := hK.at_ hkl
       have HCT : Hid (clauseT g cc = lineT (clauseL cc.cond cc.n g.kinds[kk].name oo)) := Lib.hid (by
         unfold clauseT kindNm;rw [show cc.kind.toNat = kk by omega, show cc.out.toNat = oo by omega, List.getElem?_eq_getElem hkl]
         rfl)
       have z0 := (hwr.cell (p := ⟨cb, coff + q * 4, none⟩) (show cb < w.heap.size by omega)).trans z0';have z1 := (hwr.cell (p := ⟨cb, coff + q * 4 + 1, none⟩) (show cb < w.heap.size by omega)).trans z1';have z2 := (hwr.cell (p := ⟨cb, coff + q * 4 + 2, none⟩) (show cb < w.heap.size by omega)).trans z2';have z3 := (hwr.cell (p := ⟨cb, coff + q * 4 + 3, none⟩) (show cb < w.heap.size by omega)).trans z3';rw [hkk] at z1;rw [hoo] at z3;clear z0' z1' z2' z3' hck hkk hcb
       have hoo3 : oo ≤ 3 := by omega
       clear hco hoo;generalize cc.cond = c0 at *;generalize cc.n = c2 at *;have hba := below_alloc (Below.refl _ wr) (.cells #[.int .i64 c0, .int .i64 (kk : Int), .int .i64 c2, .int .i64 (oo : Int)] 70);have hpA := hp.up hba hB2;have hg := HGX.out _ _ hpA;subst hak;have g0 := bx_cell hg 0 rfl;have g1 := bx_cell hg 1 rfl;have g2 := bx_cell hg 2 rfl;have g3 := bx_cell hg 3 rfl;have g4 := bx_cell hg 4 rfl;have g5 := bx_cell hg 5 rfl;have g6 := bx_cell hg 6 rfl;have g7 := bx_cell hg 7 rfl;have g8 := bx_cell hg 8 rfl
       have HPC := Lib.hid (putClause_any w B B kb koff kk g.kinds.length ck oo c0 c2 g.kinds[kk].name (.int .i64 g.b.cells) (.slice an g.b.next.length cn) (.slice at_ g.b.turn.length ct) (.int .i64 g.rights) (.bool g.must) (.slice ac g.clauses.length pcc) (.int .i64 g.blocked) (.int .i64 g.endless) ([] ++ yq) (wr.alloc (.cells #[.int .i64 c0, .int .i64 (kk : Int), .int .i64 c2, .int .i64 (oo : Int)] 70)) hE hR (HWW.out _ _ hpA) hpA.txt (Nat.le_trans hB2 hpA.low.size) hkl k0' hoo3 hcd (by omega) (by rw [HCT.out] at hll; rw [List.nil_append]; omega))
       have t3 : decide ((q : Int) < (g.clauses.length : Int)) = true := by rw [decide_eq_true_eq]; omega
       have t3' : decide (q < g.clauses.length) = true := by simpa using hlt
       have b3 : (0 : Int) ≤ (q : Int) := by omega
       have b4 : (q : Int) < (g.clauses.length : Int) := by omega
       have y1 : IntKind.i64.wrap ((q : Int) + 1) = (q : Int) + 1 := IntWalk.i64_in _ (by have := hv.clauses; omega)
       have HPA := Lib.hid hpA;clear hpA hp hg hba hwr k0';subst hac
       go_wp2_with fail
       refine HPC.out.mono ?_;rintro e wB ⟨⟨vB, rfl⟩, hpB⟩;have hpC := HPA.out.then hpB;rw [← HCT.out, HFL.out] at hpC;have HPD := Lib.hid hpC;clear hpB hpC g0 g1 g2 g3 g4 g5 g6 g7 g8 z0 z1 z2 z3;go_wp2
       go_roundw
       case rel => exact ⟨q + 1, by omega, by go_num, HPD.out⟩
       case measure => simp [intOf]; omega
     · obtain rfl : q = g.clauses.length := by omega
       rw [List.take_length] at hp;obtain ⟨yq, hyq⟩ : ∃ yq, y0 ++ (g.clauses.map (clauseT g)).flatten = yq := ⟨_, rfl⟩;have HW2 : Hid (writtenG g = yq ++ ((lineT [wBlocked, resW bl]) ++ (lineT [wEndless, resW en]))) := Lib.hid (by rw [HWG.out, ← hyq, List.append_assoc]);rw [hyq] at hp;clear hyq HWG;have hg := HGX.out _ _ hp
       have g7 : wr.cell? ⟨w.heap.size, 7, none⟩ = some (.int .i64 (bl : Int)) := by rw [← HBL.out]; exact bx_cell hg 7 rfl
       have rs := hR.up hwr bl hbl3
       have b5 : (0 : Int) ≤ (bl : Int) := by omega
       have b6 : (bl : Int) < 4 := by omega
       have b7 : (0 : Int) ≤ (en : Int) := by omega
       have b8 : (en : Int) < 4 := by omega
       have HPR := Lib.hid hp;clear hp hg hwr;have hbs := below_alloc (Below.refl _ wr) (.cells ([wBlocked, resW bl].map strC).toArray 9);have hpS := HPR.out.up hbs hB2;have HPT := Lib.hid (put_any B B wr.heap.size 0 2 [wBlocked, resW bl] ([] ++ yq) (wr.alloc (.cells ([wBlocked, resW bl].map strC).toArray 9)) hpS.txt (strs_cells [wBlocked, resW bl] (World.alloc_heap_new _ _)) (by simp) (by simp) (by simp) (HL2.out yq (lineT [wBlocked, resW bl]) _ HW2.out) (Nat.le_trans hB2 hpS.low.size));have HPS := Lib.hid hpS;clear hbs hpS
       go_wp2_with fail
       refine HPT.out.mono ?_;rintro e w8 ⟨⟨vq, rfl⟩, hpq⟩;have HP8 := Lib.hid (HPS.out.then hpq);clear hpq HPT HPS
       have g8 : w8.cell? ⟨w.heap.size, 8, none⟩ = some (.int .i64 (en : Int)) := by rw [← HEN.out]; exact bx_cell (HGX.out _ _ HP8.out) 8 rfl
       have rt := hR.up (HWW.out _ _ HP8.out) en hen3;clear g7 rs;have hbs := below_alloc (Below.refl _ w8) (.cells ([wEndless, resW en].map strC).toArray 9);have hpS := HP8.out.up hbs hB2;have HPT := Lib.hid (put_any B B w8.heap.size 0 2 [wEndless, resW en] ([] ++ (yq ++ (lineT [wBlocked, resW bl]))) (w8.alloc (.cells ([wEndless, resW en].map strC).toArray 9)) hpS.txt (strs_cells [wEndless, resW en] (World.alloc_heap_new _ _)) (by simp) (by simp) (by simp) (HL2.out (yq ++ (lineT [wBlocked, resW bl])) (lineT [wEndless, resW en]) [] (by rw [HW2.out, List.append_nil, List.append_assoc])) (Nat.le_trans hB2 hpS.low.size));have HPS := Lib.hid hpS;clear hbs hpS
       go_wp2_with fail
       refine HPT.out.mono ?_;rintro e w9 ⟨⟨vq, rfl⟩, hpq⟩;have HP9 := Lib.hid (HPS.out.then hpq);clear hpq HPT HPS
       have HTX : Hid (Txt B B (writtenG g) w9) := Lib.hid (by rw [HW2.out, ← List.append_assoc]; exact HP9.out.txt)
       have HST := Lib.hid (Tryz.Builder_String_any_f B B (writtenG g) w9 HTX.out (Nat.le_trans hB2 HP9.out.low.size));have HBL9 := Lib.hid (HFIN.out _ _ HP9.out);clear g8 rt
       go_wp2_with fail
       refine HST.out.mono ?_;rintro e w10 ⟨rfl, -, hb10⟩;have HB10 := Lib.hid (HBL9.out.trans (hb10.mono hB0));clear hb10;go_wp2
       go_ret
       exact ⟨rfl, HB10.out⟩
theorem gwritten_any (g : GameD) (x : GPl) (N : Nat) (w : World) (hN : N ≤ w.heap.size) (hG : GameIn N w x g) (hE : LibIn w) (hR : ResIn w) (hv : Bounds g) :
   Calls Tryz.prog 38 #[.agg (g.cells x)] w fun e w' => e = .returned (.string ⟨(writtenG g).toArray⟩) ∧ Below w.heap.size w w' :=
 gwritten_by g x.an x.at_ x.ak x.ac x.cn x.ct x.ck x.cc N w hN hG.board hG.kinds hG.clauses hE hR hv
end Go.Proofs.YtbmcngoeinginaaGreatDoor
namespace Go.Proofs.YtbmcngoeinginaaGreatDoor
open Go Go.RowKit Go.Lib
def printG (g : GameD) : List UInt8 := if validG g = true then writtenG g else []
theorem gprint_any (g : GameD) (x : GPl) (N : Nat) (w : World) (hN : N ≤ w.heap.size) (hG : GameIn N w x g) (hE : LibIn w) (hR : ResIn w) :
   Calls Tryz.prog 15 #[.agg (g.cells x)] w fun e w' => e = .returned (.string ⟨(printG g).toArray⟩) ∧ Below w.heap.size w w' := by
 have hb := below_alloc (Below.refl _ w) (.cells (g.cells x) 38)
 have hbox : (w.alloc (.cells (g.cells x) 38)).heap[w.heap.size]? = some (.cells (g.cells x) 38 (0, 0)) := World.alloc_heap_new _ _
 have HV := Lib.hid (gvalid_any g x N (w.alloc (.cells (g.cells x) 38)) (Nat.le_trans hN hb.size) (hG.up hN hb) (hE.up hb).signs)
 unfold GameD.cells at *
 go_enter Tryz.func15, Tryz.ntmps15
 go_upto_region 1 with (fail)
 generalize w.alloc _ = w1 at *
 have q0 := bx_cell hbox 0 rfl
 have q1 := bx_cell hbox 1 rfl
 have q2 := bx_cell hbox 2 rfl
 have q3 := bx_cell hbox 3 rfl
 have q4 := bx_cell hbox 4 rfl
 have q5 := bx_cell hbox 5 rfl
 have q6 := bx_cell hbox 6 rfl
 have q7 := bx_cell hbox 7 rfl
 have q8 := bx_cell hbox 8 rfl
 have HBX := Lib.hid hbox
 have HB := Lib.hid hb
 clear hbox hb
 cases hv : validG g with
 | false =>
   rw [hv] at HV
   have HP : Hid (printG g = []) := Lib.hid (by unfold printG; rw [hv]; rfl)
   clear hv
   go_wp2_with fail
   refine HV.out.mono ?_;rintro e w2 ⟨rfl, hb2⟩;have HB2 := Lib.hid (below_step HB.out hb2);clear hb2 q0 q1 q2 q3 q4 q5 q6 q7 q8;go_wp2
   go_ret
   exact ⟨by rw [HP.out]; rfl, HB2.out⟩
 | true =>
   rw [hv] at HV
   have HP : Hid (printG g = writtenG g) := Lib.hid (by unfold printG; rw [hv]; rfl)
   have HBD := Lib.hid (validG_bounds hv);clear hv
   go_wp2_with fail
   refine HV.out.mono ?_;rintro e w2 ⟨rfl, hb2⟩;have hx2 := (hb2.block _ (bx_lt HBX.out)).trans HBX.out;have hbw2 := below_step HB.out hb2;have HW := Lib.hid (gwritten_any g x N w2 (Nat.le_trans hN hbw2.size) (hG.up hN hbw2) (hE.up hbw2) (hR.up hbw2) HBD.out);unfold GameD.cells at HW;clear q0 q1 q2 q3 q4 q5 q6 q7 q8;have q0 := bx_cell hx2 0 rfl;have q1 := bx_cell hx2 1 rfl;have q2 := bx_cell hx2 2 rfl;have q3 := bx_cell hx2 3 rfl;have q4 := bx_cell hx2 4 rfl;have q5 := bx_cell hx2 5 rfl;have q6 := bx_cell hx2 6 rfl;have q7 := bx_cell hx2 7 rfl;have q8 := bx_cell hx2 8 rfl;have HB2 := Lib.hid hbw2;clear hx2 hbw2 hb2
   go_wp2_with fail
   refine HW.out.mono ?_;rintro e w3 ⟨rfl, hb3⟩;have HB3 := Lib.hid (below_step HB2.out hb3);clear hb3 q0 q1 q2 q3 q4 q5 q6 q7 q8;go_wp2
   go_ret
   exact ⟨by rw [HP.out]; rfl, HB3.out⟩
def codeS (k s : Int) : Int := if 0 ≤ k ∧ k < 6 ∧ 0 ≤ s ∧ s ≤ 1 then 1 + 2 * k + s else 0
theorem code_any (k s : Int) (w : World) : Calls Tryz.prog 18 #[.int .i64 k, .int .i64 s] w fun e w' => e = .returned (.int .i64 (codeS k s)) ∧ w' = w := by
 unfold codeS
 by_cases h0 : k < 0
 · have t0 : decide (k < 0) = true := by simpa using h0
   rw [if_neg (by omega)];go_enter Tryz.func18, Tryz.ntmps18;go_wp2
   go_ret
   exact ⟨rfl, rfl⟩
 have t0 : decide (k < 0) = false := by simpa using h0
 by_cases h1 : 6 ≤ k
 · have t1 : decide (6 ≤ k) = true := by simpa using h1
   rw [if_neg (by omega)];go_enter Tryz.func18, Tryz.ntmps18;go_wp2
   go_ret
   exact ⟨rfl, rfl⟩
 have t1 : decide (6 ≤ k) = false := by simpa using h1
 by_cases h2 : s < 0
 · have t2 : decide (s < 0) = true := by simpa using h2
   rw [if_neg (by omega)];go_enter Tryz.func18, Tryz.ntmps18;go_wp2
   go_ret
   exact ⟨rfl, rfl⟩
 have t2 : decide (s < 0) = false := by simpa using h2
 by_cases h3 : 1 < s
 · have t3 : decide (1 < s) = true := by simpa using h3
   rw [if_neg (by omega)];go_enter Tryz.func18, Tryz.ntmps18;go_wp2
   go_ret
   exact ⟨rfl, rfl⟩
 have t3 : decide (1 < s) = false := by simpa using h3
 rw [if_pos (by omega)]
 have w1 : IntKind.i64.wrap (2 * k) = 2 * k := IntWalk.i64_in _ (by omega)
 have w2 : IntKind.i64.wrap (1 + 2 * k) = 1 + 2 * k := IntWalk.i64_in _ (by omega)
 have w3 : IntKind.i64.wrap (1 + 2 * k + s) = 1 + 2 * k + s := IntWalk.i64_in _ (by omega)
 go_enter Tryz.func18, Tryz.ntmps18
 go_wp2
 go_ret
 exact ⟨rfl, rfl⟩
def manS (c : Int) : Int × Int := if 1 ≤ c ∧ c ≤ 12 then ((c - 1) / 2, (c - 1) % 2) else (-1, -1)
theorem man_any (c : Int) (w : World) : Calls Tryz.prog 43 #[.int .i64 c] w fun e w' => e = .returned (.tuple #[.int .i64 (manS c).1, .int .i64 (manS c).2]) ∧ w' = w := by
 unfold manS
 by_cases h0 : c < 1
 · have t0 : decide (c < 1) = true := by simpa using h0
   rw [if_neg (by omega)];go_enter Tryz.func43, Tryz.ntmps43;go_wp2;refine bodyPost_ret (results_tmp2 rfl _ _ _) rfl ?_;exact ⟨rfl, rfl⟩
 have t0 : decide (c < 1) = false := by simpa using h0
 by_cases h1 : 12 < c
 · have t1 : decide (12 < c) = true := by simpa using h1
   rw [if_neg (by omega)];go_enter Tryz.func43, Tryz.ntmps43;go_wp2;refine bodyPost_ret (results_tmp2 rfl _ _ _) rfl ?_;exact ⟨rfl, rfl⟩
 have t1 : decide (12 < c) = false := by simpa using h1
 rw [if_pos (by omega)]
 have w1 : IntKind.i64.wrap (c - 1) = c - 1 := IntWalk.i64_in _ (by omega)
 have e1 : (c - 1).tdiv 2 = (c - 1) / 2 := Int.tdiv_eq_ediv_of_nonneg (by omega)
 have e2 : (c - 1).tmod 2 = (c - 1) % 2 := Int.tmod_eq_emod_of_nonneg (by omega)
 have w2 : IntKind.i64.wrap ((c - 1) / 2) = (c - 1) / 2 := IntWalk.i64_in _ (by omega)
 have w3 : IntKind.i64.wrap ((c - 1) % 2) = (c - 1) % 2 := IntWalk.i64_in _ (by omega)
 go_enter Tryz.func43, Tryz.ntmps43
 go_wp2
 refine bodyPost_ret (results_tmp2 rfl _ _ _) rfl ?_
 exact ⟨rfl, rfl⟩
end Go.Proofs.YtbmcngoeinginaaGreatDoor
