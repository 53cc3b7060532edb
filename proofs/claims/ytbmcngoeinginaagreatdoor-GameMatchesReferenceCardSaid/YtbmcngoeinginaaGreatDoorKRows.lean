/-
 A game as data, and as blocks of the call's own that are being filled.
 The games of the reference: what is put in, and what comes out, as data.
 Appends of one element of several cells to a row of the call's own; what becomes of a game that is being made.
-/
import Derived.Test.YtbmcngoeinginaaGreatDoorKLibs
import Derived.Test.YtbmcngoeinginaaGreatDoorGBoard
namespace Go.Proofs.YtbmcngoeinginaaGreatDoor
open Go Go.RowKit
structure KindS where
 name : List UInt8
 progs : List (List (Int × Int))
 keep : Bool
structure GamS where
 board : Brd
 kinds : List KindS
 rights : Int
 must : Bool
 clauses : List (Int × Int × Int × Int)
 blocked : Int
 endless : Int
def Off (W : World) (h : Nat) (T : List TypeId) (k : Nat) : Prop := k < h ∨ W.heap.size ≤ k ∨ ∃ c t f, W.heap[k]? = some (.cells c t f) ∧ ¬ t ∈ T
theorem Off.sub {W : World} {h : Nat} {T U : List TypeId} {k : Nat} (ho : Off W h T k) (hs : ∀ t, t ∈ U → t ∈ T) : Off W h U k := by
 rcases ho with h | h | ⟨c, t, f, h1, h2⟩
 · exact .inl h
 · exact .inr (.inl h)
 · exact .inr (.inr ⟨c, t, f, h1, fun h => h2 (hs t h)⟩)
theorem off_low {W : World} {h : Nat} {T : List TypeId} {k : Nat} (hk : k < h) : Off W h T k := .inl hk
theorem off_new {W : World} {h : Nat} {T : List TypeId} {k : Nat} (hk : W.heap.size ≤ k) : Off W h T k := .inr (.inl hk)
theorem off_ty {W : World} {h : Nat} {T : List TypeId} {k : Nat} {c : Array Value} {t : TypeId} {f : Nat × Nat} (hk : W.heap[k]? = some (.cells c t f)) (ht : ¬ t ∈ T) : Off W h T k := .inr (.inr ⟨c, t, f, hk, ht⟩)
theorem own_has {n : Nat} {W : World} {e : TypeId} {size k : Nat} {v : Value} {l : List Value} (h : W.ownsRow n e size v k l) {B : Nat} (hB : some B = v.ownBlock) : ∃ c, W.heap[B]? = some (.cells c e (0, 0)) := by
 rcases h.2 with ⟨rfl, _⟩ | ⟨g, cap, cur, rfl, _, hc, _⟩
 · simp [Value.ownBlock] at hB
 · obtain rfl : B = g := by simpa [Value.ownBlock] using hB
   exact ⟨cur, hc⟩
theorem off_own {n h : Nat} {W : World} {e : TypeId} {size k : Nat} {v : Value} {l : List Value} (hr : W.ownsRow n e size v k l) {B : Nat} (hB : some B = v.ownBlock) {T : List TypeId} (hT : ¬ e ∈ T) : Off W h T B := by
 obtain ⟨c, hc⟩ := own_has hr hB
 exact off_ty hc hT
theorem ownsRow_off {n : Nat} {W W' : World} {e : TypeId} {size k : Nat} {v : Value} {l : List Value} (h : W.ownsRow n e size v k l) {S : Nat → Prop} (ha : Alters S W W') (hS : ∀ k, S k → Off W n [e] k) : W'.ownsRow n e size v k l := by
 refine ⟨h.1, ?_⟩
 rcases h.2 with h2 | ⟨g, cap, cur, rfl, hg, hc, r⟩
 · exact .inl h2
 · refine .inr ⟨g, cap, cur, rfl, hg, (ha.block g (Array.getElem?_eq_some_iff.1 hc).1 (fun hs => ?_)).trans hc, r⟩
   rcases hS g hs with h | h | ⟨c, t, f, h1, h2⟩
   · omega
   · have := (Array.getElem?_eq_some_iff.1 hc).1; omega
   · rw [hc] at h1; cases h1; simp at h2
theorem OwnB.off {h : Nat} {W W' : World} {on ot : Value} {B : Brd} (hb : OwnB h W on ot B) {S : Nat → Prop} (ha : Alters S W W') (hS : ∀ k, S k → Off W h [32, 3] k) : OwnB h W' on ot B := by
 obtain ⟨vs, hr⟩ := hb.rows
 exact ⟨⟨vs, ownsRow_off hr.outer ha (fun k hk => (hS k hk).sub (by simp)), fun i v hv => ownsRow_off (hr.own i v hv) ha (fun k hk => (hS k hk).sub (by simp))⟩, ownsRow_off hb.turn ha (fun k hk => (hS k hk).sub (by simp))⟩
def OwnPg (h : Nat) (W : World) (v : Value) (ps : List (List (Int × Int))) : Prop :=
 ∃ vs, W.ownsRow h 68 1 v ps.length vs ∧ ∀ (i : Nat) u, vs[i]? = some u → OwnStp h W u (ps[i]?.getD [])
theorem OwnPg.off {h : Nat} {W W' : World} {v : Value} {ps : List (List (Int × Int))} (hp : OwnPg h W v ps) {S : Nat → Prop} (ha : Alters S W W') (hS : ∀ k, S k → Off W h [68, 91] k) : OwnPg h W' v ps := by
 obtain ⟨vs, h1, h2⟩ := hp
 exact ⟨vs, ownsRow_off h1 ha (fun k hk => (hS k hk).sub (by simp)), fun i u hu => ownsRow_off (h2 i u hu) ha (fun k hk => (hS k hk).sub (by simp))⟩
theorem OwnPg.low {h m : Nat} {W : World} {v : Value} {ps : List (List (Int × Int))} (hp : OwnPg h W v ps) (hm : m ≤ h) : OwnPg m W v ps := by
 obtain ⟨vs, h1, h2⟩ := hp
 exact ⟨vs, ownsRow_low h1 hm, fun i u hu => (h2 i u hu).mono hm⟩
theorem OwnPg.nil (h : Nat) (W : World) : OwnPg h W (.slice none 0 0) [] := ⟨[], World.ownsRow_nil _ _ _ _, fun i u hu => by simp at hu⟩
theorem OwnPg.slice {h : Nat} {W : World} {v : Value} {ps : List (List (Int × Int))} (hp : OwnPg h W v ps) : ∃ a c, v = .slice a ps.length c := by
 obtain ⟨vs, h1, _⟩ := hp
 rcases h1.2 with ⟨rfl, h0⟩ | ⟨g, cap, cur, rfl, _⟩
 · exact ⟨none, 0, by rw [h0]⟩
 · exact ⟨_, _, rfl⟩
def gflatK : List KindS → List Value → List Value
 | k :: ks, v :: vs => .string ⟨k.name.toArray⟩ :: v :: .bool k.keep :: gflatK ks vs
 | _, _ => []
theorem flatK_app : ∀ (ks : List KindS) (vs : List Value) (k : KindS) (v : Value), vs.length = ks.length → gflatK (ks ++ [k]) (vs ++ [v]) = gflatK ks vs ++ [.string ⟨k.name.toArray⟩, v, .bool k.keep]
 | [], [], k, v, _ => rfl
 | a :: ks, b :: vs, k, v, h => by
   simp only [List.cons_append, gflatK, flatK_app ks vs k v (by simpa using h)]
 | [], _ :: _, _, _, h => by simp at h
 | _ :: _, [], _, _, h => by simp at h
def OwnK (h : Nat) (W : World) (v : Value) (ks : List KindS) : Prop :=
 ∃ vs, vs.length = ks.length ∧ W.ownsRow h 63 3 v ks.length (gflatK ks vs) ∧ ∀ (i : Nat) u k, vs[i]? = some u → ks[i]? = some k → OwnPg h W u k.progs
theorem OwnK.off {h : Nat} {W W' : World} {v : Value} {ks : List KindS} (hp : OwnK h W v ks) {S : Nat → Prop} (ha : Alters S W W') (hS : ∀ k, S k → Off W h [63, 68, 91] k) : OwnK h W' v ks := by
 obtain ⟨vs, h0, h1, h2⟩ := hp
 exact ⟨vs, h0, ownsRow_off h1 ha (fun k hk => (hS k hk).sub (by simp)), fun i u k hu hk => (h2 i u k hu hk).off ha (fun k hk => (hS k hk).sub (by simp))⟩
theorem OwnK.nil (h : Nat) (W : World) : OwnK h W (.slice none 0 0) [] := ⟨[], rfl, World.ownsRow_nil _ _ _ _, fun i u k hu => by simp at hu⟩
def gflatC : List (Int × Int × Int × Int) → List Value
 | [] => []
 | x :: l => .int .i64 x.1 :: .int .i64 x.2.1 :: .int .i64 x.2.2.1 :: .int .i64 x.2.2.2 :: gflatC l
theorem flatC_app : ∀ l m : List (Int × Int × Int × Int), gflatC (l ++ m) = gflatC l ++ gflatC m
 | [], m => rfl
 | x :: l, m => by simp [gflatC, flatC_app l m]
def OwnC (h : Nat) (W : World) (v : Value) (cs : List (Int × Int × Int × Int)) : Prop := W.ownsRow h 70 4 v cs.length (gflatC cs)
theorem OwnC.off {h : Nat} {W W' : World} {v : Value} {cs : List (Int × Int × Int × Int)} (hp : OwnC h W v cs) {S : Nat → Prop} (ha : Alters S W W') (hS : ∀ k, S k → Off W h [70] k) : OwnC h W' v cs := ownsRow_off hp ha hS
structure OwnG (h : Nat) (W : World) (on ot kv cv : Value) (g : GamS) : Prop where
 board : OwnB h W on ot g.board
 kinds : OwnK h W kv g.kinds
 clauses : OwnC h W cv g.clauses
def GamS.cells (g : GamS) (on ot kv cv : Value) : Array Value := #[.int .i64 g.board.cells, on, ot, kv, .int .i64 g.rights, .bool g.must, cv, .int .i64 g.blocked, .int .i64 g.endless]
structure GBox (h B : Nat) (W : World) (on ot kv cv : Value) (g : GamS) : Prop where
 box : W.heap[B]? = some (.cells (g.cells on ot kv cv) 38 (0, 0))
 own : OwnG h W on ot kv cv g
theorem OwnG.off {h : Nat} {W W' : World} {on ot kv cv : Value} {g : GamS} (hg : OwnG h W on ot kv cv g) {S : Nat → Prop} (ha : Alters S W W') (hS : ∀ k, S k → Off W h [32, 3, 63, 68, 91, 70] k) : OwnG h W' on ot kv cv g :=
 ⟨hg.board.off ha (fun k hk => (hS k hk).sub (by simp)), hg.kinds.off ha (fun k hk => (hS k hk).sub (by simp)), hg.clauses.off ha (fun k hk => (hS k hk).sub (by simp))⟩
theorem GBox.lt {h B : Nat} {W : World} {on ot kv cv : Value} {g : GamS} (hg : GBox h B W on ot kv cv g) : B < W.heap.size := (Array.getElem?_eq_some_iff.1 hg.box).1
theorem GBox.below {h B : Nat} {W W' : World} {on ot kv cv : Value} {g : GamS} (hg : GBox h B W on ot kv cv g) (hb : Below W.heap.size W W') : GBox h B W' on ot kv cv g :=
 ⟨(hb.block B hg.lt).trans hg.box, hg.own.off (S := fun _ => False) (Alters.of_below hb) (fun _ h => h.elim)⟩
end Go.Proofs.YtbmcngoeinginaaGreatDoor
namespace Go.Proofs.YtbmcngoeinginaaGreatDoor
open Go Go.RowKit
structure GRaw where
 w : Nat
 h : Nat
 cut : Nat
 k0 : List Nat
 k1 : List Nat
 c : List (Nat × Nat × Nat)
 f : Nat → Nat
def Trs (n : Nat) (W : World) (a : Option Addr) (l : List (Nat × Nat × Nat)) : Prop :=
 (∀ j : Nat, (l[j]?.getD (0, 0, 0)).1 ≤ 255 ∧ (l[j]?.getD (0, 0, 0)).2.1 ≤ 255 ∧ (l[j]?.getD (0, 0, 0)).2.2 ≤ 255) ∧
   (l = [] ∨ ∃ b off, a = some ⟨b, off, none⟩ ∧ b < n ∧ ∀ j, j < l.length → W.cell? ⟨b, off + j * 3, none⟩ = some (.int .u8 ((l[j]?.getD (0, 0, 0)).1 : Int)) ∧ W.cell? ⟨b, off + j * 3 + 1, none⟩ = some (.int .u8 ((l[j]?.getD (0, 0, 0)).2.1 : Int)) ∧ W.cell? ⟨b, off + j * 3 + 2, none⟩ = some (.int .u8 ((l[j]?.getD (0, 0, 0)).2.2 : Int)))
theorem Trs.below {n : Nat} {A B : World} {a : Option Addr} {l : List (Nat × Nat × Nat)} (h : Trs n A a l) (hb : Below n A B) : Trs n B a l := by
 refine ⟨h.1, ?_⟩
 rcases h.2 with h | ⟨b, off, e, hn, hc⟩
 · exact .inl h
 · have hk : B.heap[b]? = A.heap[b]? := hb.block b hn
   exact .inr ⟨b, off, e, hn, fun j hj => ⟨(World.cell?_of_block (a := ⟨b, off + j * 3, none⟩) hk).trans (hc j hj).1, (World.cell?_of_block (a := ⟨b, off + j * 3 + 1, none⟩) hk).trans (hc j hj).2.1, (World.cell?_of_block (a := ⟨b, off + j * 3 + 2, none⟩) hk).trans (hc j hj).2.2⟩⟩
theorem Trs.up {N : Nat} {w w1 : World} {a : Option Addr} {l : List (Nat × Nat × Nat)} (h : Trs N w a l) (hN : N ≤ w.heap.size) (hb : Below w.heap.size w w1) : Trs N w1 a l := h.below (hb.mono hN)
theorem Trs.at_ {n : Nat} {W : World} {a : Option Addr} {l : List (Nat × Nat × Nat)} (h : Trs n W a l) {j : Nat} (hj : j < l.length) :
   ∃ b off, a = some ⟨b, off, none⟩ ∧ b < n ∧ W.cell? ⟨b, off + j * 3, none⟩ = some (.int .u8 ((l[j]?.getD (0, 0, 0)).1 : Int)) ∧ W.cell? ⟨b, off + j * 3 + 1, none⟩ = some (.int .u8 ((l[j]?.getD (0, 0, 0)).2.1 : Int)) ∧ W.cell? ⟨b, off + j * 3 + 2, none⟩ = some (.int .u8 ((l[j]?.getD (0, 0, 0)).2.2 : Int)) := by
 rcases h.2 with rfl | ⟨b, off, e, hn, hc⟩
 · simp at hj
 · exact ⟨b, off, e, hn, (hc j hj).1, (hc j hj).2.1, (hc j hj).2.2⟩
def GRaw.cells (x : GRaw) (a0 a1 a2 : Option Addr) (c0 c1 c2 : Nat) : Array Value :=
 #[.int .u8 x.w, .int .u8 x.h, .int .u8 x.cut, .slice a0 x.k0.length c0, .slice a1 x.k1.length c1, .slice a2 x.c.length c2, .int .u8 (x.f 0), .int .u8 (x.f 1), .int .u8 (x.f 2), .int .u8 (x.f 3), .int .u8 (x.f 4), .int .u8 (x.f 5)]
structure GRawIn (N : Nat) (W : World) (a0 a1 a2 : Option Addr) (x : GRaw) : Prop where
 k0 : U8s N W a0 x.k0
 k1 : U8s N W a1 x.k1
 c : Trs N W a2 x.c
 bw : x.w ≤ 255
 bh : x.h ≤ 255
 bc : x.cut ≤ 255
 bf : ∀ i, x.f i ≤ 255
theorem GRawIn.up {N : Nat} {w w1 : World} {a0 a1 a2 : Option Addr} {x : GRaw} (h : GRawIn N w a0 a1 a2 x) (hN : N ≤ w.heap.size) (hb : Below w.heap.size w w1) : GRawIn N w1 a0 a1 a2 x :=
 ⟨h.k0.up hN hb, h.k1.up hN hb, h.c.up hN hb, h.bw, h.bh, h.bc, h.bf⟩
def kindN (x : GRaw) : Nat := if 0 < x.k1.length then 2 else 1
def GRaw.board (x : GRaw) : Brd := madeB x.w x.h x.cut
def GRaw.rights (x : GRaw) : Nat := x.f 0 % 3
def GRaw.list (x : GRaw) (i : Nat) : List Nat := if i = 0 then x.k0 else x.k1
def progOf (x : GRaw) (n : Nat) : List (Int × Int) := progS n x.board.next.length (kindN x) x.rights
def kindS (x : GRaw) (i : Nat) : KindS := { name := if i = 0 then [97] else [98, 101, 101], progs := ((x.list i).take 4).map (progOf x), keep := decide ((x.f 2 / 2 ^ i) % 2 = 1) }
def clauseS (x : GRaw) (c : Nat × Nat × Nat) : Int × Int × Int × Int :=
 (1 + (c.1 % 3 : Nat), (if 1 + c.1 % 3 ≠ 3 then (c.2.1 % kindN x : Nat) else 0), (if 1 + c.1 % 3 = 2 then ((c.2.2 : Int) % x.board.cells) else if 1 + c.1 % 3 = 3 then (c.2.2 % 3 : Nat) else 0), 1 + (c.1 / 4 % 3 : Nat))
def madeG (x : GRaw) : GamS where
 board := x.board
 kinds := (List.range (kindN x)).map (kindS x)
 rights := x.rights
 must := decide (x.f 1 % 4 = 3)
 clauses := (x.c.take 3).map (clauseS x)
 blocked := if x.f 3 % 4 = 3 then 1 + (x.f 3 / 4 % 3 : Nat) else 3
 endless := if x.f 4 % 4 = 3 then 1 + (x.f 4 / 4 % 3 : Nat) else 2
def gamK (x : GRaw) (k : Nat) : GamS := { board := x.board, kinds := (List.range k).map (kindS x), rights := x.rights, must := decide (x.f 1 % 4 = 3), clauses := [], blocked := 3, endless := 2 }
theorem board_next (x : GRaw) : x.board.next.length = 8 := by
 unfold GRaw.board madeB
 split <;> simp [withoutS, gridB]
theorem board_cells (x : GRaw) : 1 ≤ x.board.cells ∧ x.board.cells ≤ 9 := by
 have h := cells_in x.w x.h
 unfold GRaw.board
 rw [madeB_cells]
 omega
end Go.Proofs.YtbmcngoeinginaaGreatDoor
namespace Go.Proofs.YtbmcngoeinginaaGreatDoor
open Go Go.RowKit
theorem step_pushG {w : World} {ops : Array Oper} {o : Oper} {a : Act} {K : Act → World → Prop} {Q : Exit → Act → World → Prop} {X : Prop} (hgd : o.guard = none) (t e : TypeId) (z : Value) (size bytes : Nat) (ht : Tryz.prog.underlying t = some (.slice e))
   (hinfo : (Tryz.prog.info? e).map (fun i => (i.zero, i.size, i.bytes)) = some (some z, size, bytes)) (hzs : z.cells.size = size) (hsz : 0 < size) (hby : bytes ≤ 1000) (s y : Operand)
   (ho : o.op = .call { callee := .builtin .append, args := #[s, y], argTypes := #[t, t] }) (n : Nat) (v : Value) (k : Nat) (xs : List Value) (hs : a.eval s = v) (h : w.ownsRow n e size v k xs) (hk : k < 2000) (hn : n ≤ w.heap.size)
   (b c : Nat) (news : List Value) (hy : a.eval y = .slice (some ⟨b, 0, none⟩) 1 c) (hl : news.length = size) (hb : w.heap[b]? = some (.cells news.toArray e (0, 0))) (h1 : ∀ u ∈ news, u.oneCell' = true)
   (hK : ∀ g cap w', w'.ownsRow n e size (.slice (some ⟨g, 0, none⟩) (k + 1) cap) (k + 1) (xs ++ news) → w.grownBy w' v.ownBlock → K (a.put o.dst (.slice (some ⟨g, 0, none⟩) (k + 1) cap)) w') :
   if Region.wanted o (yielded ops a.tmps) = true then Oper.wp Tryz.prog o a w K Q else X := by
 have hw : Region.wanted o (yielded ops a.tmps) = true := by simp [Region.wanted, hgd]
 rw [if_pos hw]
 obtain ⟨i0, hi, hz0, hz1, hz2⟩ := info_parts hinfo
 obtain ⟨v', w', hr, h2, h3, _, h5⟩ := run_append_own_at (P := Tryz.prog) w n t o.type e i0 z size bytes ht hi hz0 hz1 hz2 hzs hsz v k xs h ⟨b, 0, none⟩ 1 c news (by omega)
   (by intro j u hj
       have e : (⟨b, 0, none⟩ : Addr).add j = ⟨b, j, none⟩ := by by_cases h : j = 0 <;> simp [Addr.add, h]
       rw [e];unfold World.cell?;rw [hb]
       simpa using hj) h1 (by unfold maxLen; omega)
   (Nat.le_trans (Nat.mul_le_mul (show k + 1 ≤ 2000 by omega) hby) (by omega)) hn
 obtain ⟨g, cap, rfl⟩ := ownsRow_succ h2
 unfold Oper.wp
 simp [execOp, ho, resolve, invoke, builtin, hs, hy, hr, Result.andThen]
 exact hK g cap w' h2 h3
theorem wpList_pushG {w : World} {ops : Array Oper} {rest : List Oper} {o : Oper} {a : Act} {Q : Exit → Act → World → Prop} (hgd : o.guard = none) (t e : TypeId) (z : Value) (size bytes : Nat) (ht : Tryz.prog.underlying t = some (.slice e))
   (hinfo : (Tryz.prog.info? e).map (fun i => (i.zero, i.size, i.bytes)) = some (some z, size, bytes)) (hzs : z.cells.size = size) (hsz : 0 < size) (hby : bytes ≤ 1000) (s y : Operand)
   (ho : o.op = .call { callee := .builtin .append, args := #[s, y], argTypes := #[t, t] }) (n : Nat) (v : Value) (k : Nat) (xs : List Value) (hs : a.eval s = v) (h : w.ownsRow n e size v k xs) (hk : k < 2000) (hn : n ≤ w.heap.size)
   (b c : Nat) (news : List Value) (hy : a.eval y = .slice (some ⟨b, 0, none⟩) 1 c) (hl : news.length = size) (hb : w.heap[b]? = some (.cells news.toArray e (0, 0))) (h1 : ∀ u ∈ news, u.oneCell' = true)
   (hK : ∀ g cap w', w'.ownsRow n e size (.slice (some ⟨g, 0, none⟩) (k + 1) cap) (k + 1) (xs ++ news) → w.grownBy w' v.ownBlock → wpList Tryz.prog ops Q rest (a.put o.dst (.slice (some ⟨g, 0, none⟩) (k + 1) cap)) w') :
   wpList Tryz.prog ops Q (o :: rest) a w :=
 wpList_plain hgd fun K hK' => by
   have h2 := step_pushG (w := w) (ops := ops) (Q := Q) (K := K) (X := True) hgd t e z size bytes ht hinfo hzs hsz hby s y ho n v k xs hs h hk hn b c news hy hl hb h1 (fun g cap w' h1 h2 => hK' _ _ (hK g cap w' h1 h2));rw [if_pos (by simp [Region.wanted, hgd])] at h2;exact h2
theorem info_prog : (Tryz.prog.info? 68).map (fun i => (i.zero, i.size, i.bytes)) = some (some (.slice none 0 0), 1, 24) := by kernel_rfl
theorem info_kind : (Tryz.prog.info? 63).map (fun i => (i.zero, i.size, i.bytes)) = some (some (.agg #[.string ⟨#[]⟩, .slice none 0 0, .bool false]), 3, 48) := by kernel_rfl
theorem info_clause : (Tryz.prog.info? 70).map (fun i => (i.zero, i.size, i.bytes)) = some (some (.agg #[.int .i64 0, .int .i64 0, .int .i64 0, .int .i64 0]), 4, 32) := by kernel_rfl
theorem not_row {n B size k : Nat} {W : World} {e T : TypeId} {v : Value} {xs : List Value} {cs : Array Value} (hrow : W.ownsRow n e size v k xs) (hB : W.heap[B]? = some (.cells cs T (0, 0))) (hT : ¬ T = e) : ¬ some B = v.ownBlock := fun hc => by
 obtain ⟨c, hc2⟩ := own_has hrow hc
 rw [hB] at hc2; cases hc2; exact hT rfl
theorem box_pushed {B size k n : Nat} {W W7 : World} {e T : TypeId} {v : Value} {xs : List Value} {cs : Array Value} {o : Obj} (hrow : W.ownsRow n e size v k xs) (hB : W.heap[B]? = some (.cells cs T (0, 0))) (hT : ¬ T = e) (hg : (W.alloc o).grownBy W7 v.ownBlock) : W7.heap[B]? = some (.cells cs T (0, 0)) :=
 (hg.block B (by rw [World.size_alloc]; have := (Array.getElem?_eq_some_iff.1 hB).1; omega) (not_row hrow hB hT)).trans ((Below.heap_alloc _ _ _ (Array.getElem?_eq_some_iff.1 hB).1).trans hB)
theorem heap_set {W : World} {B j : Nat} {cs : Array Value} {T : TypeId} (v : Value) (h : W.heap[B]? = some (.cells cs T (0, 0))) : (W.setCell ⟨B, j, none⟩ v).heap[B]? = some (.cells (cs.setIfInBounds j v) T (0, 0)) := by
 simp [World.setCell, Array.getElem?_modify, h]
theorem pushed {h B j e : Nat} {W W7 : World} {v v' : Value} {xs : List Value} {size k : Nat} {o : Obj} (_ : W.ownsRow h e size v k xs) (hg : (W.alloc o).grownBy W7 v.ownBlock) : Alters (fun b => b = B ∨ some b = v.ownBlock) W (W7.setCell ⟨B, j, none⟩ v') :=
 (((Alters.of_below (below_alloc (Below.refl _ W) o)).trans ((Alters.of_grown hg).mono (fun _ _ h => .inr h))).trans ((alters_cell W7 B j v').mono (fun _ _ h => .inl h)))
theorem addProg {h B : Nat} {W W7 : World} {pv pv' v : Value} {nm kp : Value} {ps : List (List (Int × Int))} {P : List (Int × Int)} {vs : List Value}
   (hB : W.heap[B]? = some (.cells #[nm, pv, kp] 63 (0, 0))) (hhB : h ≤ B) (hh : h ≤ W.heap.size) (hrow : W.ownsRow h 68 1 pv ps.length vs) (hel : ∀ (i : Nat) u, vs[i]? = some u → OwnStp h W u (ps[i]?.getD []))
   (hv : OwnStp h W v P) (hg : (W.alloc (.cells #[v] 68)).grownBy W7 pv.ownBlock) (hr7 : W7.ownsRow h 68 1 pv' (ps.length + 1) (vs ++ [v])) :
   (W7.setCell ⟨B, 1, none⟩ pv').heap[B]? = some (.cells #[nm, pv', kp] 63 (0, 0)) ∧ OwnPg h (W7.setCell ⟨B, 1, none⟩ pv') pv' (ps ++ [P]) ∧ Below h W (W7.setCell ⟨B, 1, none⟩ pv') := by
 have hBl := (Array.getElem?_eq_some_iff.1 hB).1
 have hA := pushed (B := B) (j := 1) (v' := pv') hrow hg
 have hBn : ¬ some B = pv.ownBlock := fun hc => by
   obtain ⟨c, hc2⟩ := own_has hrow hc
   rw [hB] at hc2; cases hc2
 have hB7 : W7.heap[B]? = some (.cells #[nm, pv, kp] 63 (0, 0)) :=
   (hg.block B (by rw [World.size_alloc]; omega) hBn).trans ((Below.heap_alloc _ _ _ hBl).trans hB)
 have hvl : vs.length = ps.length := by have := hrow.1; omega
 refine ⟨by rw [heap_set _ hB7]; rfl, ⟨vs ++ [v], ?_, fun i u hu => ?_⟩, hA.below hh (fun k hk => ?_)⟩
 · rw [List.length_append]
   refine ownsRow_off hr7 (alters_cell W7 B 1 pv') (fun k hk => ?_);subst hk;exact off_ty hB7 (by simp)
 · have hoff : ∀ {u : Value} {Q : List (Int × Int)}, OwnStp h W u Q → OwnStp h (W7.setCell ⟨B, 1, none⟩ pv') u Q := fun hQ => ownsRow_off hQ hA (fun k hk => by
     rcases hk with rfl | hk
     · exact off_ty hB (by simp)
     · exact off_own hrow hk (by simp))
   by_cases hi : i < ps.length
   · rw [List.getElem?_append_left (by omega)] at hu
     have := hel i u hu;rw [List.getElem?_append_left hi];exact hoff this
   · rw [List.getElem?_append_right (by omega)] at hu
     have hi0 : i - vs.length = 0 := by
       have := (List.getElem?_eq_some_iff.1 hu).1
       simp at this; omega
     rw [hi0] at hu
     obtain rfl : v = u := by simpa using hu
     rw [List.getElem?_append_right (by omega), show i - ps.length = 0 by omega]
     simpa using hoff hv
 · rcases hk with rfl | hk
   · exact hhB
   · exact (World.ownsRow.lt hrow k hk.symm).1
theorem addKind {h B : Nat} {W W7 : World} {on ot kv cv kv' pv : Value} {g : GamS} {K : KindS} {vs : List Value} (hG : GBox h B W on ot kv cv g) (hhB : h ≤ B) (hh : h ≤ W.heap.size)
   (hvs : vs.length = g.kinds.length) (hrow : W.ownsRow h 63 3 kv g.kinds.length (gflatK g.kinds vs)) (hel : ∀ (i : Nat) u k, vs[i]? = some u → g.kinds[i]? = some k → OwnPg h W u k.progs)
   (hP : OwnPg h W pv K.progs) (hg : (W.alloc (.cells #[.string ⟨K.name.toArray⟩, pv, .bool K.keep] 63)).grownBy W7 kv.ownBlock)
   (hr7 : W7.ownsRow h 63 3 kv' (g.kinds.length + 1) (gflatK g.kinds vs ++ [.string ⟨K.name.toArray⟩, pv, .bool K.keep])) :
   GBox h B (W7.setCell ⟨B, 3, none⟩ kv') on ot kv' cv { g with kinds := g.kinds ++ [K] } ∧ Below h W (W7.setCell ⟨B, 3, none⟩ kv') := by
 have hB := hG.box
 have hBl := hG.lt
 have hA := pushed (B := B) (j := 3) (v' := kv') hrow hg
 have hBn : ¬ some B = kv.ownBlock := fun hc => by
   obtain ⟨c, hc2⟩ := own_has hrow hc
   rw [hB] at hc2; cases hc2
 have hB7 : W7.heap[B]? = some (.cells (g.cells on ot kv cv) 38 (0, 0)) :=
   (hg.block B (by rw [World.size_alloc]; omega) hBn).trans ((Below.heap_alloc _ _ _ hBl).trans hB)
 have hO : ∀ {T : List TypeId}, ¬ 38 ∈ T → ¬ 63 ∈ T → ∀ k, (k = B ∨ some k = kv.ownBlock) → Off W h T k := fun h1 h2 k hk => by
   rcases hk with rfl | hk
   · exact off_ty hB h1
   · exact off_own hrow hk h2
 refine ⟨⟨by rw [heap_set _ hB7]; rfl, hG.own.board.off hA (hO (by simp) (by simp)), ⟨vs ++ [pv], by simp [hvs], ?_, fun i u k hu hk => ?_⟩, hG.own.clauses.off hA (hO (by simp) (by simp))⟩, hA.below hh (fun k hk => ?_)⟩
 · show World.ownsRow _ _ _ _ _ (g.kinds ++ [K]).length (gflatK (g.kinds ++ [K]) (vs ++ [pv]))
   rw [List.length_append, flatK_app _ _ _ _ hvs];refine ownsRow_off hr7 (alters_cell W7 B 3 kv') (fun k hk => ?_);subst hk;exact off_ty hB7 (by simp)
 · have hoff : ∀ {u : Value} {Q : List (List (Int × Int))}, OwnPg h W u Q → OwnPg h (W7.setCell ⟨B, 3, none⟩ kv') u Q := fun hQ => hQ.off hA (hO (by simp) (by simp))
   have hk' : (g.kinds ++ [K])[i]? = some k := hk
   by_cases hi : i < g.kinds.length
   · rw [List.getElem?_append_left (by omega)] at hu
     rw [List.getElem?_append_left hi] at hk';exact hoff (hel i u k hu hk')
   · rw [List.getElem?_append_right (by omega)] at hu
     have hi0 : i - vs.length = 0 := by
       have := (List.getElem?_eq_some_iff.1 hu).1
       simp at this; omega
     rw [hi0] at hu
     obtain rfl : pv = u := by simpa using hu
     rw [List.getElem?_append_right (by omega), show i - g.kinds.length = 0 by omega] at hk'
     obtain rfl : K = k := by simpa using hk'
     exact hoff hP
 · rcases hk with rfl | hk
   · exact hhB
   · exact (World.ownsRow.lt hrow k hk.symm).1
theorem addClause {h B : Nat} {W W7 : World} {on ot kv cv cv' : Value} {g : GamS} {c : Int × Int × Int × Int} (hG : GBox h B W on ot kv cv g) (hhB : h ≤ B) (hh : h ≤ W.heap.size)
   (hg : (W.alloc (.cells #[.int .i64 c.1, .int .i64 c.2.1, .int .i64 c.2.2.1, .int .i64 c.2.2.2] 70)).grownBy W7 cv.ownBlock)
   (hr7 : W7.ownsRow h 70 4 cv' (g.clauses.length + 1) (gflatC g.clauses ++ [.int .i64 c.1, .int .i64 c.2.1, .int .i64 c.2.2.1, .int .i64 c.2.2.2])) :
   GBox h B (W7.setCell ⟨B, 6, none⟩ cv') on ot kv cv' { g with clauses := g.clauses ++ [c] } ∧ Below h W (W7.setCell ⟨B, 6, none⟩ cv') := by
 have hB := hG.box
 have hBl := hG.lt
 have hrow := hG.own.clauses
 have hA := pushed (B := B) (j := 6) (v' := cv') hrow hg
 have hBn : ¬ some B = cv.ownBlock := fun hc => by
   obtain ⟨c, hc2⟩ := own_has hrow hc
   rw [hB] at hc2; cases hc2
 have hB7 : W7.heap[B]? = some (.cells (g.cells on ot kv cv) 38 (0, 0)) :=
   (hg.block B (by rw [World.size_alloc]; omega) hBn).trans ((Below.heap_alloc _ _ _ hBl).trans hB)
 have hO : ∀ {T : List TypeId}, ¬ 38 ∈ T → ¬ 70 ∈ T → ∀ k, (k = B ∨ some k = cv.ownBlock) → Off W h T k := fun h1 h2 k hk => by
   rcases hk with rfl | hk
   · exact off_ty hB h1
   · exact off_own hrow hk h2
 refine ⟨⟨by rw [heap_set _ hB7]; rfl, hG.own.board.off hA (hO (by simp) (by simp)), hG.own.kinds.off hA (hO (by simp) (by simp)), ?_⟩, hA.below hh (fun k hk => ?_)⟩
 · show World.ownsRow _ _ _ _ _ (g.clauses ++ [c]).length (gflatC (g.clauses ++ [c]))
   rw [List.length_append, flatC_app];refine ownsRow_off hr7 (alters_cell W7 B 6 cv') (fun k hk => ?_);subst hk;exact off_ty hB7 (by simp)
 · rcases hk with rfl | hk
   · exact hhB
   · exact (World.ownsRow.lt hrow k hk.symm).1
theorem OwnK.low {h m : Nat} {W : World} {v : Value} {ks : List KindS} (hp : OwnK h W v ks) (hm : m ≤ h) : OwnK m W v ks := by
 obtain ⟨vs, h0, h1, h2⟩ := hp
 exact ⟨vs, h0, ownsRow_low h1 hm, fun i u k hu hk => (h2 i u k hu hk).low hm⟩
theorem OwnG.low {h m : Nat} {W : World} {on ot kv cv : Value} {g : GamS} (hg : OwnG h W on ot kv cv g) (hm : m ≤ h) : OwnG m W on ot kv cv g :=
 ⟨hg.board.low hm, hg.kinds.low hm, ownsRow_low hg.clauses hm⟩
theorem info_game : (Tryz.prog.info? 38).map (·.size) = some 9 := by kernel_rfl
theorem setNum {h B j : Nat} {W : World} {on ot kv cv v : Value} {g g' : GamS} (hG : GBox h B W on ot kv cv g) (hhB : h ≤ B) (hh : h ≤ W.heap.size)
   (he : (g.cells on ot kv cv).setIfInBounds j v = g'.cells on ot kv cv) (hb : g'.board = g.board) (hk : g'.kinds = g.kinds) (hc : g'.clauses = g.clauses) :
   GBox h B (W.setCell ⟨B, j, none⟩ v) on ot kv cv g' ∧ Below h W (W.setCell ⟨B, j, none⟩ v) := by
 have hA := alters_cell W B j v
 have hO : ∀ {T : List TypeId}, ¬ 38 ∈ T → ∀ k, k = B → Off W h T k := fun h1 k hk => by
   subst hk; exact off_ty hG.box h1
 refine ⟨⟨by rw [heap_set _ hG.box, he], ?_⟩, hA.below hh (fun k hk => by subst hk; exact hhB)⟩
 have := hG.own.off hA (hO (by simp))
 exact ⟨by rw [hb]; exact this.board, by rw [hk]; exact this.kinds, by rw [hc]; exact this.clauses⟩
end Go.Proofs.YtbmcngoeinginaaGreatDoor
