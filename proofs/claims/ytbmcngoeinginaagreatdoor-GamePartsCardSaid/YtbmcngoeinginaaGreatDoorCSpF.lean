/-
 Of the laws: spoilt, a game in which something is changed; and that what it gives stands where blocks are altered that the game given does not lie in.
-/
import Derived.Test.YtbmcngoeinginaaGreatDoorCSpoA
import Derived.Test.YtbmcngoeinginaaGreatDoorCSam
import Derived.Test.YtbmcngoeinginaaGreatDoorCWrt
import Derived.Deep.DeepCutAuto
import Derived.Deep.CutBlock
namespace Go.Proofs.YtbmcngoeinginaaGreatDoor
open Go Go.RowKit Go.Lib
attribute [local irreducible] Go.wpQuiet
def u8w (x : Int) : Nat := (IntKind.u8.wrap x).toNat
theorem u8_nat (x : Int) (h : -128 ≤ x ∧ x ≤ 127) : IntKind.u8.wrap x = ((u8w x : Nat) : Int) ∧ u8w x ≤ 255 := by
 have : ((List.range 256).all fun j => decide (0 ≤ IntKind.u8.wrap ((j : Int) - 128) ∧ IntKind.u8.wrap ((j : Int) - 128) ≤ 255)) = true := by decide +kernel
 have h2 := List.all_eq_true.1 this (x + 128).toNat (List.mem_range.2 (by omega))
 rw [decide_eq_true_eq, show (((x + 128).toNat : Nat) : Int) - 128 = x from by omega] at h2
 unfold u8w
 omega
def names7 : List (List UInt8) := [[], [98], [97, 98, 99, 100, 101, 102, 103, 104], [97, 98, 99, 100, 101, 102, 103, 104, 105], [65], [97, 32, 98], [98, 101, 101]]
def names4 : List (List UInt8) := [[], [98], [97], [97, 98, 99, 100, 101, 102, 103, 104]]
def spoiltS (g : GameD) (a b c : Int) : GameD :=
 match u8w a % 10 with
 | 0 => { g with rights := b }
 | 1 => { g with blocked := b }
 | 2 => { g with endless := b }
 | 3 => { g with kinds := g.kinds.modify (u8w c % g.kinds.length) fun x => { x with name := names7[u8w b % 7]?.getD [] } }
 | 4 => { g with kinds := g.kinds ++ [⟨names4[u8w b % 4]?.getD [], [], false⟩] }
 | 5 => { g with kinds := g.kinds.modify (u8w c % g.kinds.length) fun x => { x with progs := x.progs ++ [[(b, c)]] } }
 | 6 => { g with clauses := g.clauses ++ [⟨1 + ((u8w c % 4 : Nat) : Int), b.tmod 3, b, 1 + ((u8w c % 3 : Nat) : Int)⟩] }
 | 7 => { g with b := { g.b with cells := g.b.cells + b } }
 | 8 => { g with b := { g.b with turn := g.b.turn ++ [b] } }
 | _ => { g with kinds := [] }
theorem flatK_mod (f : KindD → KindD) (p : Value → Value) (j : Nat) (u : Value) (hj : j < 3)
   (hf : ∀ (k : KindD) (v : Value), flatK [f k] [p v] = (flatK [k] [v]).set j u) :
   ∀ (ks : List KindD) (ps : List Value) (i : Nat), ps.length = ks.length → i < ks.length → flatK (ks.modify i f) (ps.modify i p) = (flatK ks ps).set (i * 3 + j) u
 | [], _, i, _, hi => by simp at hi
 | _ :: _, [], _, h, _ => by simp at h
 | k :: ks, v :: ps, 0, _, _ => by
   have h := hf k v
   simp only [flatK, List.modify_zero_cons] at h ⊢
   rcases (show j = 0 ∨ j = 1 ∨ j = 2 by omega) with rfl | rfl | rfl
   all_goals
     simp only [List.set_cons_zero, List.set_cons_succ, List.cons.injEq, and_true, Nat.zero_mul, Nat.zero_add] at h ⊢
     simp [h]
 | k :: ks, v :: ps, i + 1, h, hi => by
   have ih := flatK_mod f p j u hj hf ks ps i (by simpa using h) (by simpa using hi)
   simp only [flatK, List.modify_succ_cons, ih]
   rw [show (i + 1) * 3 + j = (i * 3 + j) + 1 + 1 + 1 by omega]
   simp only [List.set_cons_succ]
theorem kinds_fin {h : Nat} {W : World} {v : Value} {ks : List KindD} {pvs : List Value} (hl : pvs.length = ks.length) (ho : W.ownsRow h 63 3 v ks.length (flatK ks pvs))
   (hp : ∀ i (hi : i < ks.length), ∃ aj cj, pvs[i]? = some (.slice aj (ks[i]'hi).progs.length cj) ∧ ProgsIn W.heap.size W aj (ks[i]'hi).progs) : ∃ a cap, v = .slice a ks.length cap ∧ KindsIn W.heap.size W a ks :=
 KRow.in_ (h := h) (pvs := pvs) ⟨hl, ho, fun i hi => by
   obtain ⟨aj, cj, e, hq⟩ := hp i hi
   exact ⟨aj, cj, e, hq⟩⟩
theorem not_far {F : Nat → Prop} {w : World} {b o : Nat} (h : ∀ V, Alters F w V → ∃ v, V.cell? ⟨b, o, none⟩ = some v) : ¬ F b := by
 intro hF
 obtain ⟨v0, hv0⟩ := h w (Alters.refl _ _)
 obtain ⟨v, hv⟩ := h (w.setRow b #[]) ⟨rfl, rfl, rfl, by rw [size_setRow]; exact Nat.le_refl _, fun k _ hk => setRow_other w b k _ (fun e => hk (e ▸ hF))⟩
 have hl := World.block_lt_of_cell? w _ hv0
 have hl : b < w.heap.size := hl
 unfold World.cell? at hv0
 obtain ⟨ob, hob⟩ : ∃ ob, w.heap[b]? = some ob := ⟨_, Array.getElem?_eq_getElem hl⟩
 cases ob with
 | cells cs t f =>
   have := cell_setRow_same w b o cs #[] t f hob
   rw [this] at hv
   simp at hv
 | _ => simp [hob] at hv0
theorem far_cell {F : Nat → Prop} {w V : World} (hV : Alters F w V) {b o : Nat} (hb : ¬ F b) (hl : b < w.heap.size) : V.cell? ⟨b, o, none⟩ = w.cell? ⟨b, o, none⟩ := World.cell?_of_block (hV.block b hl hb)
theorem progs_far {F : Nat → Prop} {w : World} {a : Option Addr} {ks : List KindD} (h : ∀ V, Alters F w V → KindsIn V.heap.size V a ks) {i : Nat} (hi : i < ks.length) {v : Value}
   (hv : ∀ b off, a = some ⟨b, off, none⟩ → w.cell? ⟨b, off + i * 3 + 1, none⟩ = some v) : ∃ aj cj, v = .slice aj (ks[i]'hi).progs.length cj ∧ ∀ V, Alters F w V → ProgsIn V.heap.size V aj (ks[i]'hi).progs := by
 obtain ⟨b, off, aj, cj, e, hb, z0, z1, hp, z2⟩ := (h w (Alters.refl _ _)).at_ hi
 have hv2 := hv b off e
 rw [z1] at hv2
 cases hv2
 have hF : ¬ F b := not_far (w := w) (o := off + i * 3 + 1) (fun V hV => by
   obtain ⟨b', off', aj', cj', e', _, _, y1, _, _⟩ := (h V hV).at_ hi
   rw [e] at e'
   cases e'
   exact ⟨_, y1⟩)
 refine ⟨aj, cj, rfl, fun V hV => ?_⟩
 obtain ⟨b', off', aj', cj', e', _, _, y1, hp', _⟩ := (h V hV).at_ hi
 rw [e] at e'
 cases e'
 rw [far_cell hV hF hb, z1] at y1
 cases y1
 exact hp'
theorem steps_far {F : Nat → Prop} {w : World} {a : Option Addr} {ps : List (List (Int × Int))} (h : ∀ V, Alters F w V → ProgsIn V.heap.size V a ps) {i : Nat} (hi : i < ps.length) {v : Value}
   (hv : ∀ b off, a = some ⟨b, off, none⟩ → w.cell? ⟨b, off + i, none⟩ = some v) : ∃ aj cj, v = .slice aj (ps[i]'hi).length cj ∧ ∀ V, Alters F w V → Prg V.heap.size V aj (ps[i]'hi) := by
 obtain ⟨b, off, aj, cj, e, hb, z1, hp⟩ := (h w (Alters.refl _ _)).at_ hi
 have hv2 := hv b off e
 rw [z1] at hv2
 cases hv2
 have hF : ¬ F b := not_far (w := w) (o := off + i) (fun V hV => by
   obtain ⟨b', off', aj', cj', e', _, y1, _⟩ := (h V hV).at_ hi
   rw [e] at e'
   cases e'
   exact ⟨_, y1⟩)
 refine ⟨aj, cj, rfl, fun V hV => ?_⟩
 obtain ⟨b', off', aj', cj', e', _, y1, hp'⟩ := (h V hV).at_ hi
 rw [e] at e'
 cases e'
 rw [far_cell hV hF hb, z1] at y1
 cases y1
 exact hp'
structure B3 (w : World) (gb ab : Nat) (v3 : Value) (a b c : Int) (W : World) : Prop where
 low : Below w.heap.size w W
 g3 : W.cell? ⟨gb, 3, none⟩ = some v3
 a0 : W.cell? ⟨ab, 0, none⟩ = some (.int .i8 a)
 a1 : W.cell? ⟨ab, 1, none⟩ = some (.int .i8 b)
 a2 : W.cell? ⟨ab, 2, none⟩ = some (.int .i8 c)
theorem B3.up {w W W' : World} {gb ab : Nat} {v3 : Value} {a b c : Int} (h : B3 w gb ab v3 a b c W) (hb : Below W.heap.size W W') : B3 w gb ab v3 a b c W' := ⟨below_step h.low hb, cell_keep hb h.g3, cell_keep hb h.a0, cell_keep hb h.a1, cell_keep hb h.a2⟩
structure Lit (g : GameD) : Prop where
 k1 : 1 ≤ g.kinds.length
 k2 : g.kinds.length ≤ 6
 progs : ∀ k ∈ g.kinds, k.progs.length ≤ 10
 clauses : g.clauses.length ≤ 10
 turn : g.b.turn.length ≤ 20
 cells : -1000 ≤ g.b.cells ∧ g.b.cells ≤ 1000
theorem GameIn.low {N : Nat} {W W' : World} {x : GPl} {g : GameD} (h : GameIn N W x g) (hb : Below N W W') : GameIn N W' x g := ⟨h.board.below hb, h.kinds.below hb, h.clauses.below hb⟩
def SpoEnd (F : Nat → Prop) (w : World) (gb : Nat) (gs : GameD) (kv : Value) (W : World) : Prop :=
 ∃ CT : Array Value, W.heap[gb]? = some (.cells CT 38 (0, 0)) ∧ W.heap[gb + 2]? = some (.cells zeroC 38 (0, 0)) ∧ Below w.heap.size w W ∧
   ∃ z : GPl, CT.setIfInBounds 3 kv = gs.cells z ∧ ∀ W', Alters (fun k => k = gb ∨ k = gb + 2 ∨ F k) W W' → GameIn W'.heap.size W' z gs
theorem hpn_ {W : World} (o : Obj) {b : Nat} (hb : b = W.heap.size) : (W.alloc o).heap[b]? = some o := hpn o hb
theorem ProgsIn.row {n : Nat} {W : World} {a : Option Addr} {ps : List (List (Int × Int))} (h : ProgsIn n W a ps) :
   ∃ qs : List Value, qs.length = ps.length ∧ (ps.length = 0 ∨ ∃ b off, a = some ⟨b, off, none⟩ ∧ b < n ∧ ∀ j, j < ps.length → W.cell? ⟨b, off + j, none⟩ = qs[j]?) ∧ ∀ i (hi : i < ps.length), ∃ aj cj, qs[i]? = some (.slice aj (ps[i]'hi).length cj) ∧ Prg n W aj (ps[i]'hi) := by
 rcases h with rfl | ⟨b, off, e, hn, hc⟩
 · exact ⟨[], rfl, .inl rfl, fun i hi => by simp at hi⟩
 · obtain ⟨f, hf⟩ : ∃ f : Nat → Value, ∀ i (hi : i < ps.length), ∃ aj cj, f i = .slice aj (ps[i]'hi).length cj ∧ W.cell? ⟨b, off + i, none⟩ = some (f i) ∧ Prg n W aj (ps[i]'hi) := by
     refine ⟨fun i => (W.cell? ⟨b, off + i, none⟩).getD undef, fun i hi => ?_⟩
     obtain ⟨aj, cj, h2, h3⟩ := hc i hi
     exact ⟨aj, cj, by simp only [h2, Option.getD_some], by simp only [h2, Option.getD_some], h3⟩
   refine ⟨(List.range ps.length).map f, by simp, .inr ⟨b, off, e, hn, fun j hj => ?_⟩, fun i hi => ?_⟩
   · obtain ⟨_, _, _, h2, _⟩ := hf j hj
     rw [h2]; simp [hj]
   · obtain ⟨aj, cj, hv, _, hp⟩ := hf i hi
     exact ⟨aj, cj, by simp [hi, hv], hp⟩
theorem info_intS : (Tryz.prog.info? 3).map (fun i => (i.zero, i.size, i.bytes)) = some (some (.int .i64 0), 1, 8) := by kernel_rfl
theorem tmod3 (x : Int) : -3 < x.tmod 3 ∧ x.tmod 3 < 3 := by
 rcases Int.le_total 0 x with h | h
 · rw [Int.tmod_eq_emod_of_nonneg h]; omega
 · obtain ⟨n, hn⟩ := Int.eq_ofNat_of_zero_le (show 0 ≤ -x by omega)
   rw [show x = -(n : Int) by omega, Int.neg_tmod, Int.tmod_eq_emod_of_nonneg (by omega)]; omega
theorem flatC_len (cs : List ClauseD) : (flatC cs).length = cs.length * 4 := by
 induction cs with
 | nil => rfl
 | cons c cs ih => simp only [flatC, List.length_cons, ih]; omega
theorem flatC_one (cs : List ClauseD) : ∀ u ∈ flatC cs, u.oneCell' = true := by
 induction cs with
 | nil => intro u hu; simp [flatC] at hu
 | cons c cs ih =>
   intro u hu
   simp only [flatC, List.mem_cons] at hu
   rcases hu with rfl | rfl | rfl | rfl | hu
   · rfl
   · rfl
   · rfl
   · rfl
   · exact ih u hu
theorem ClausesIn.row {n : Nat} {W : World} {a : Option Addr} {cs : List ClauseD} (h : ClausesIn n W a cs) : cs.length = 0 ∨ ∃ b off, a = some ⟨b, off, none⟩ ∧ b < n ∧ ∀ j, j < cs.length * 4 → W.cell? ⟨b, off + j, none⟩ = (flatC cs)[j]? := by
 rcases h with rfl | ⟨b, off, e, hn, hc⟩
 · exact .inl rfl
 · refine .inr ⟨b, off, e, hn, fun j hj => ?_⟩
   obtain ⟨i, r, rfl, hr⟩ : ∃ i r, j = i * 4 + r ∧ r < 4 := ⟨j / 4, j % 4, by omega, by omega⟩
   have hi : i < cs.length := by omega
   obtain ⟨k0, k1, k2, k3⟩ := hc i hi
   obtain ⟨f0, f1, f2, f3⟩ := flatC_at cs i hi
   rw [← Nat.add_assoc]
   rcases (show r = 0 ∨ r = 1 ∨ r = 2 ∨ r = 3 by omega) with rfl | rfl | rfl | rfl
   · rw [Nat.add_zero, Nat.add_zero, k0, f0]
   · rw [k1, f1]
   · rw [k2, f2]
   · rw [k3, f3]
theorem low_of0 {w W W' : World} {gb : Nat} (hb : Below w.heap.size w W) (hg : w.heap.size = gb) (hal : Alters (fun k => k = gb ∨ k = gb + 2) W W') : Below w.heap.size w W' :=
 hb.trans (hal.below hb.size (fun k hk => by rcases hk with rfl | rfl <;> omega))
theorem low_of {F : Nat → Prop} {w W W' : World} {gb : Nat} (hb : Below w.heap.size w W) (hg : w.heap.size = gb) (hal : Alters (fun k => k = gb ∨ k = gb + 2 ∨ F k) W W') : Alters F w W' :=
 ⟨hal.os.trans hb.os, hal.tape.trans hb.tape, hal.output.trans hb.output, Nat.le_trans hb.size hal.size, fun k hk hF => (hal.block k (Nat.lt_of_lt_of_le hk hb.size) (fun h => by
   rcases h with h | h | h
   · omega
   · omega
   · exact hF h)).trans (hb.block k hk)⟩
theorem kinds_same {F : Nat → Prop} {h gb gk cap : Nat} {w W W' : World} {ks : List KindD} {pvs : List Value} (hF : ∀ k, F k → k < gb) (hb : Below w.heap.size w W) (hg : w.heap.size = gb) (hgh : gb + 2 < h) (hal : Alters (fun k => k = gb ∨ k = gb + 2 ∨ F k) W W')
   (hl : pvs.length = ks.length) (ho : W.ownsRow h 63 3 (.slice (some ⟨gk, 0, none⟩) ks.length cap) ks.length (flatK ks pvs)) (hp : ∀ i (hi : i < ks.length), ∃ aj cj, pvs[i]? = some (.slice aj (ks[i]'hi).progs.length cj) ∧ ∀ V, Alters F w V → ProgsIn V.heap.size V aj (ks[i]'hi).progs) :
   KindsIn W'.heap.size W' (some ⟨gk, 0, none⟩) ks := by
 have hlow := low_of hb hg hal
 obtain ⟨a, c, e, h⟩ := kinds_fin (W := W') hl (own_low ho hal (fun k hk => by
   rcases hk with h | h | h
   · omega
   · omega
   · have := hF k h; omega)) (fun i hi => by
   obtain ⟨aj, cj, e, hq⟩ := hp i hi
   exact ⟨aj, cj, e, hq W' hlow⟩)
 cases e
 exact h
set_option maxRecDepth 100000 in
set_option maxHeartbeats 4000000 in
theorem spoilt_far (F : Nat → Prop) (g : GameD) (y : GPl) (a b c : Int) (w : World) (hF : ∀ k, F k → k < w.heap.size) (hli : Lit g) (ha : -128 ≤ a ∧ a ≤ 127) (hbb : -128 ≤ b ∧ b ≤ 127) (hcc : -128 ≤ c ∧ c ≤ 127) (hG : ∀ V, Alters F w V → GameIn V.heap.size V y g) :
   Calls Tryz.prog 22 #[.agg (g.cells y), .agg #[.int .i8 a, .int .i8 b, .int .i8 c]] w fun e w' => ∃ z, e = .returned (.agg ((spoiltS g a b c).cells z)) ∧ (∀ V, Alters F w' V → GameIn V.heap.size V z (spoiltS g a b c)) ∧ Below w.heap.size w w' := by
 obtain ⟨ea, la⟩ := u8_nat a ha
 obtain ⟨eb, lb⟩ := u8_nat b hbb
 obtain ⟨ec, lc⟩ := u8_nat c hcc
 have hk1 := hli.k1
 have hk2 := hli.k2
 have HLI := Lib.hid hli
 have hbA : Below w.heap.size w (((w.alloc (.cells (g.cells y) 38)).alloc (.cells #[.int .i8 a, .int .i8 b, .int .i8 c] 53)).alloc (.cells zeroC 38)) := below_alloc (below_alloc (below_alloc (Below.refl _ _) _) _) _
 have hx1 : (((w.alloc (.cells (g.cells y) 38)).alloc (.cells #[.int .i8 a, .int .i8 b, .int .i8 c] 53)).alloc (.cells zeroC 38)).heap[w.heap.size]? = some (.cells (g.cells y) 38 (0, 0)) := hpo (hpo (hpn _ rfl))
 have hx2 : (((w.alloc (.cells (g.cells y) 38)).alloc (.cells #[.int .i8 a, .int .i8 b, .int .i8 c] 53)).alloc (.cells zeroC 38)).heap[w.heap.size + 1]? = some (.cells #[.int .i8 a, .int .i8 b, .int .i8 c] 53 (0, 0)) := hpo (hpn _ (by simp))
 have hx3 : (((w.alloc (.cells (g.cells y) 38)).alloc (.cells #[.int .i8 a, .int .i8 b, .int .i8 c] 53)).alloc (.cells zeroC 38)).heap[w.heap.size + 2]? = some (.cells zeroC 38 (0, 0)) := hpn _ (by simp)
 have HG0 := Lib.hid hG
 have HN0 : Hid (w.heap.size ≤ w.heap.size) := Lib.hid (Nat.le_refl _)
 have HFL0 := Lib.hid hF
 clear hli hG hF
 unfold GameD.cells zeroC at hbA hx1 hx2 hx3
 unfold GameD.cells
 go_enter Tryz.func22, Tryz.ntmps22
 go_upto_region 1 with (fail)
 obtain ⟨gb, hgb⟩ : ∃ gb, w.heap.size = gb := ⟨_, rfl⟩
 have HGB := Lib.hid hgb
 have HFL : Hid (∀ k, F k → k < gb) := Lib.hid (fun k hk => by have := HFL0.out k hk; omega)
 rw [hgb] at hx1 hx2 hx3
 (try simp only [hgb])
 clear hgb
 generalize (((w.alloc (.cells #[.int .i64 g.b.cells, .slice y.an g.b.next.length y.cn, .slice y.at_ g.b.turn.length y.ct, .slice y.ak g.kinds.length y.ck, .int .i64 g.rights, .bool g.must, .slice y.ac g.clauses.length y.cc, .int .i64 g.blocked, .int .i64 g.endless] 38)).alloc (.cells #[.int .i8 a, .int .i8 b, .int .i8 c] 53)).alloc (.cells #[.int .i64 0, .slice none 0 0, .slice none 0 0, .slice none 0 0, .int .i64 0, .bool false, .slice none 0 0, .int .i64 0, .int .i64 0] 38)) = w1 at *
 have y1 : IntKind.i64.wrap b = b := IntWalk.i64_in _ (by omega)
 have y2 : IntKind.i64.wrap ((u8w c : Nat) : Int) = ((u8w c : Nat) : Int) := IntWalk.i64_in _ (by omega)
 have y3 : ((u8w c : Nat) : Int).tmod (g.kinds.length : Int) = ((u8w c % g.kinds.length : Nat) : Int) := rfl
 have y4 : IntKind.i64.wrap ((u8w c % g.kinds.length : Nat) : Int) = ((u8w c % g.kinds.length : Nat) : Int) := IntWalk.i64_in _ (by have := Nat.mod_lt (u8w c) (show 0 < g.kinds.length by omega); omega)
 have y5 : ¬ ((g.kinds.length : Int) = 0) := by omega
 have y6 : ¬ g.kinds = [] := fun e => by rw [e] at hk1; simp at hk1
 have hkk := Nat.mod_lt (u8w c) (show 0 < g.kinds.length by omega)
 have HX1 := Lib.hid hx1
 have HX2 := Lib.hid hx2
 have HX3 := Lib.hid hx3
 have HBA := Lib.hid hbA
 have hC : B3 w gb (gb + 1) (.slice y.ak g.kinds.length y.ck) a b c w1 := ⟨hbA, bx_cell hx1 3 rfl, bx_cell hx2 0 rfl, bx_cell hx2 1 rfl, bx_cell hx2 2 rfl⟩
 have hC2 := hC.up (Below.refl _ _).drew
 clear hx1 hx2 hx3 hbA hC
 obtain ⟨kk, hkke⟩ : ∃ kk, u8w c % g.kinds.length = kk := ⟨_, rfl⟩
 have HKK := Lib.hid hkke
 rw [hkke] at y3 y4 hkk
 clear hkke
 have hC3 : B3 w1 gb (gb + 1) (.slice y.ak g.kinds.length y.ck) a b c w1.drew := ⟨(Below.refl _ _).drew, hC2.g3, hC2.a0, hC2.a1, hC2.a2⟩
 clear hC2
 refine wp_region_quiet (C := B3 w1 gb (gb + 1) (.slice y.ak g.kinds.length y.ck) a b c) (by kernel_rfl) (by kernel_rfl) hC3 ?_
 clear hC3
 dsimp only
 iterate 13
   refine wpQuiet_val (v := ?_) (by rfl) ?_ ?_
   rotate_left
   · ((intro W hW; (try cases hW); go_simp); try with_reducible rfl)
   (try simp only [Act.put, sA, sB, sC])
 refine wpQuiet_nil (fun w2 hW => ?_)
 have hb2 := hW.low
 clear hW
 have HKI := Lib.hid ((HG0.out w (Alters.refl _ _)).kinds)
 have hX2 := (hb2.block _ (bx_lt HX1.out)).trans HX1.out
 have hA2 := (hb2.block _ (bx_lt HX2.out)).trans HX2.out
 have hZ2 := (hb2.block _ (bx_lt HX3.out)).trans HX3.out
 have HBW2 := Lib.hid (below_step HBA.out hb2)
 obtain ⟨sb, so, pvs, hsa, hsn, hpl, hrow, hpv0⟩ := HKI.out.row hk1
 have hpv : ∀ i (hi : i < g.kinds.length), ∃ aj cj, pvs[i]? = some (.slice aj (g.kinds[i]'hi).progs.length cj) ∧ ∀ V, Alters F w V → ProgsIn V.heap.size V aj (g.kinds[i]'hi).progs := fun i hi => by
   have hiv : i < pvs.length := by omega
   have hcell : w.cell? ⟨sb, so + i * 3 + 1, none⟩ = some pvs[i] := by
     rw [Nat.add_assoc, hrow (i * 3 + 1) (by omega), (flatK_at g.kinds pvs i hi hpl).2.1, List.getElem?_eq_getElem hiv]
   obtain ⟨aj, cj, e, hq⟩ := progs_far (v := pvs[i]) (fun V hV => (HG0.out V hV).kinds) hi (fun b off e => by
     rw [hsa] at e
     cases e
     exact hcell)
   exact ⟨aj, cj, by rw [List.getElem?_eq_getElem hiv, e], hq⟩
 clear hpv0
 have hbE : Below w2.heap.size w2 (w2.alloc (.cells #[] 63)) := below_alloc (Below.refl _ _) _
 have hown := own_fresh w2 63 3
 have hX3 := (hbE.block _ (bx_lt hX2)).trans hX2
 have q3 := bx_cell hX3 3 rfl
 have hrw3 : ∀ j, j < g.kinds.length * 3 → (w2.alloc (.cells #[] 63)).cell? ⟨sb, so + j, none⟩ = (flatK g.kinds pvs)[j]? := fun j hj => ((below_step HBW2.out hbE).cell (p := ⟨sb, so + j, none⟩) (Nat.lt_of_lt_of_le hsn HN0.out)).trans (hrow j hj)
 have hone := flatK_one g.kinds pvs (fun i v hv => by
   have hi : i < g.kinds.length := by have := (List.getElem?_eq_some_iff.1 hv).1; omega
   obtain ⟨aj, cj, e, _⟩ := hpv i hi
   rw [e] at hv; cases hv; rfl)
 have hfl := flatK_len g.kinds pvs hpl
 have HSA := Lib.hid hsa
 clear hsa
 go_upto_region 3 with (refine wpList_spread rfl 35 63 _ 3 48 Tryz.underlying35 info_kindC rfl (by decide) (by decide) (.tmp 21) (.tmp 23) rfl w2.heap.size w2.heap.size rfl hown hbE.size y.ak g.kinds.length y.ck (flatK g.kinds pvs) rfl hfl (by omega) (.inr ⟨sb, so, HSA.out, hrw3⟩) hone ?_; intro gk capk w4 ho4 hg4 hor4)
 have hb4 : Below w2.heap.size w2 w4 := hbE.trans ((Alters.of_grown hg4).below hbE.size (fun k hk => by have hk : some k = some w2.heap.size := hk; injection hk with hk; omega))
 have hgl : gb + 2 < w2.heap.size := bx_lt hZ2
 have HX4 := Lib.hid ((hb4.block _ (bx_lt hX2)).trans hX2)
 have HA4 := Lib.hid ((hb4.block _ (bx_lt hA2)).trans hA2)
 have HZ4 := Lib.hid ((hb4.block _ (bx_lt hZ2)).trans hZ2)
 have HBW4 := Lib.hid (below_step HBW2.out hb4)
 have HO4 := Lib.hid ho4
 have HPV := Lib.hid hpv
 have HPL := Lib.hid hpl
 have HS2 := Lib.hid hb4.size
 obtain ⟨h2, hh2⟩ : ∃ h2, w2.heap.size = h2 := ⟨_, rfl⟩
 rw [hh2] at HO4 hgl HS2
 (try simp only [hh2])
 clear hh2 hb4 ho4 hg4 hor4 hX2 hA2 hZ2 hb2 hbE hown hX3 q3 hrow hrw3 hone hfl hpv hpl HKI HSA hsn HX1 HX2 HX3 HBA HBW2
 have z0 := bx_cell HA4.out 0 rfl
 have y7 : ((u8w a : Nat) : Int).tmod 10 = ((u8w a % 10 : Nat) : Int) := rfl
 have y8 : IntKind.u8.wrap ((u8w a % 10 : Nat) : Int) = ((u8w a % 10 : Nat) : Int) := by
   have : ((List.range 10).all fun j => decide (IntKind.u8.wrap ((j : Nat) : Int) = ((j : Nat) : Int))) = true := by decide +kernel
   exact of_decide_eq_true (List.all_eq_true.1 this _ (List.mem_range.2 (Nat.mod_lt _ (by omega))))
 obtain ⟨m, hm⟩ : ∃ m, u8w a % 10 = m := ⟨_, rfl⟩
 have hm10 : m < 10 := by omega
 have HM := Lib.hid hm
 rw [hm] at y7 y8
 clear hm
 go_cut [7, 28] (fun k v wx => k = .slice (some ⟨gk, 0, none⟩) g.kinds.length capk ∧ v = .int .u8 ((m : Nat) : Int) ∧ w4 = wx)
 case first =>
   go_wp2
   go_meet
   exact ⟨rfl, rfl, rfl⟩
 case rest =>
   obtain ⟨hv7, hv28, hwc⟩ := hcut
   subst hv7
   subst hv28
   subst hwc
   clear z0 y7 y8
   go_step
   go_cut [7] (fun v wx => ∃ kv, kv = v ∧ SpoEnd F w gb (spoiltS g a b c) kv wx)
   case first =>
     have hx4 := HX4.out
     have hz4 := HZ4.out
     have lgb := bx_lt hx4
     have fr := fun j => bx_frozen hx4 j
     rcases (show m = 0 ∨ m = 1 ∨ m = 2 ∨ m = 3 ∨ m = 4 ∨ m = 5 ∨ m = 6 ∨ m = 7 ∨ m = 8 ∨ m = 9 by omega) with rfl | rfl | rfl | rfl | rfl | rfl | rfl | rfl | rfl | rfl
     ·
       have HSP : Hid (spoiltS g a b c = { g with rights := b }) := Lib.hid (by unfold spoiltS; rw [HM.out]; rfl)
       have hT := bx_set_ hx4 4 (.int .i64 b)
       simp only [List.setIfInBounds_toArray, List.set_cons_zero, List.set_cons_succ] at hT
       have hal4 := alters_cell w4 gb 4 (.int .i64 b)
       have hZ : (w4.setCell ⟨gb, 4, none⟩ (.int .i64 b)).heap[gb + 2]? = some (.cells zeroC 38 (0, 0)) := (hal4.block (gb + 2) (bx_lt hz4) (fun e => by have e : gb + 2 = gb := e; omega)).trans hz4
       have hbT : Below w.heap.size w (w4.setCell ⟨gb, 4, none⟩ (.int .i64 b)) := HBW4.out.trans (hal4.below HBW4.out.size (fun k hk => by have hk : k = gb := hk; have := HGB.out; omega))
       have hoT := own_low HO4.out hal4 (fun k hk => by have hk : k = gb := hk; omega)
       have HEND : Hid (SpoEnd F w gb (spoiltS g a b c) (.slice (some ⟨gk, 0, none⟩) g.kinds.length capk) (w4.setCell ⟨gb, 4, none⟩ (.int .i64 b))) := Lib.hid (by
         rw [HSP.out]
         refine ⟨_, hT, hZ, hbT, { y with ak := some ⟨gk, 0, none⟩, ck := capk }, rfl, fun W' hal => ?_⟩
         have hlow := low_of hbT HGB.out hal
         have hg := HG0.out W' hlow
         exact ⟨hg.board, kinds_same HFL.out hbT HGB.out hgl hal HPL.out hoT HPV.out, hg.clauses⟩)
       clear hT hZ hbT hoT hal4
       have f0 := fr 4
       have k0 := bx_cell hx4 4 rfl
       go_wp2_with fail
       go_meet
       exact ⟨_, rfl, HEND.out⟩
     ·
       have HSP : Hid (spoiltS g a b c = { g with blocked := b }) := Lib.hid (by unfold spoiltS; rw [HM.out]; rfl)
       have hT := bx_set_ hx4 7 (.int .i64 b)
       simp only [List.setIfInBounds_toArray, List.set_cons_zero, List.set_cons_succ] at hT
       have hal4 := alters_cell w4 gb 7 (.int .i64 b)
       have hZ : (w4.setCell ⟨gb, 7, none⟩ (.int .i64 b)).heap[gb + 2]? = some (.cells zeroC 38 (0, 0)) := (hal4.block (gb + 2) (bx_lt hz4) (fun e => by have e : gb + 2 = gb := e; omega)).trans hz4
       have hbT : Below w.heap.size w (w4.setCell ⟨gb, 7, none⟩ (.int .i64 b)) := HBW4.out.trans (hal4.below HBW4.out.size (fun k hk => by have hk : k = gb := hk; have := HGB.out; omega))
       have hoT := own_low HO4.out hal4 (fun k hk => by have hk : k = gb := hk; omega)
       have HEND : Hid (SpoEnd F w gb (spoiltS g a b c) (.slice (some ⟨gk, 0, none⟩) g.kinds.length capk) (w4.setCell ⟨gb, 7, none⟩ (.int .i64 b))) := Lib.hid (by
         rw [HSP.out]
         refine ⟨_, hT, hZ, hbT, { y with ak := some ⟨gk, 0, none⟩, ck := capk }, rfl, fun W' hal => ?_⟩
         have hlow := low_of hbT HGB.out hal
         have hg := HG0.out W' hlow
         exact ⟨hg.board, kinds_same HFL.out hbT HGB.out hgl hal HPL.out hoT HPV.out, hg.clauses⟩)
       clear hT hZ hbT hoT hal4
       have f0 := fr 7
       have k0 := bx_cell hx4 7 rfl
       go_wp2_with fail
       go_meet
       exact ⟨_, rfl, HEND.out⟩
     ·
       have HSP : Hid (spoiltS g a b c = { g with endless := b }) := Lib.hid (by unfold spoiltS; rw [HM.out]; rfl)
       have hT := bx_set_ hx4 8 (.int .i64 b)
       simp only [List.setIfInBounds_toArray, List.set_cons_zero, List.set_cons_succ] at hT
       have hal4 := alters_cell w4 gb 8 (.int .i64 b)
       have hZ : (w4.setCell ⟨gb, 8, none⟩ (.int .i64 b)).heap[gb + 2]? = some (.cells zeroC 38 (0, 0)) := (hal4.block (gb + 2) (bx_lt hz4) (fun e => by have e : gb + 2 = gb := e; omega)).trans hz4
       have hbT : Below w.heap.size w (w4.setCell ⟨gb, 8, none⟩ (.int .i64 b)) := HBW4.out.trans (hal4.below HBW4.out.size (fun k hk => by have hk : k = gb := hk; have := HGB.out; omega))
       have hoT := own_low HO4.out hal4 (fun k hk => by have hk : k = gb := hk; omega)
       have HEND : Hid (SpoEnd F w gb (spoiltS g a b c) (.slice (some ⟨gk, 0, none⟩) g.kinds.length capk) (w4.setCell ⟨gb, 8, none⟩ (.int .i64 b))) := Lib.hid (by
         rw [HSP.out]
         refine ⟨_, hT, hZ, hbT, { y with ak := some ⟨gk, 0, none⟩, ck := capk }, rfl, fun W' hal => ?_⟩
         have hlow := low_of hbT HGB.out hal
         have hg := HG0.out W' hlow
         exact ⟨hg.board, kinds_same HFL.out hbT HGB.out hgl hal HPL.out hoT HPV.out, hg.clauses⟩)
       clear hT hZ hbT hoT hal4
       have f0 := fr 8
       have k0 := bx_cell hx4 8 rfl
       go_wp2_with fail
       go_meet
       exact ⟨_, rfl, HEND.out⟩
     ·
       have x7 : ((u8w b : Nat) : Int).tmod 7 = ((u8w b % 7 : Nat) : Int) := rfl
       have HSP : Hid (spoiltS g a b c = { g with kinds := g.kinds.modify kk fun x => { x with name := names7[u8w b % 7]?.getD [] } }) := Lib.hid (by unfold spoiltS; rw [HM.out, HKK.out]; rfl)
       obtain ⟨i, hi⟩ : ∃ i, u8w b % 7 = i := ⟨_, rfl⟩
       have hi7 : i < 7 := by omega
       rw [hi] at x7 HSP
       clear hi
       have x8 : IntKind.u8.wrap ((i : Nat) : Int) = (i : Int) := by
         rcases (show i = 0 ∨ i = 1 ∨ i = 2 ∨ i = 3 ∨ i = 4 ∨ i = 5 ∨ i = 6 by omega) with rfl | rfl | rfl | rfl | rfl | rfl | rfl <;> decide
       have hst : (w4.alloc (.cells #[.string ⟨#[]⟩, .string ⟨#[98]⟩, .string ⟨#[97, 98, 99, 100, 101, 102, 103, 104]⟩, .string ⟨#[97, 98, 99, 100, 101, 102, 103, 104, 105]⟩, .string ⟨#[65]⟩, .string ⟨#[97, 32, 98]⟩, .string ⟨#[98, 101, 101]⟩] 9)).cell? ⟨w4.heap.size, i, none⟩ = some (.string ⟨(names7[i]?.getD []).toArray⟩) := by
         rcases (show i = 0 ∨ i = 1 ∨ i = 2 ∨ i = 3 ∨ i = 4 ∨ i = 5 ∨ i = 6 by omega) with rfl | rfl | rfl | rfl | rfl | rfl | rfl <;> exact cell_new_at _ _ _ _ _ _ rfl rfl
       have hz1 : (w4.alloc (.cells #[.string ⟨#[]⟩, .string ⟨#[98]⟩, .string ⟨#[97, 98, 99, 100, 101, 102, 103, 104]⟩, .string ⟨#[97, 98, 99, 100, 101, 102, 103, 104, 105]⟩, .string ⟨#[65]⟩, .string ⟨#[97, 32, 98]⟩, .string ⟨#[98, 101, 101]⟩] 9)).cell? ⟨gb + 1, 1, none⟩ = some (.int .i8 b) := bx_cell (hpo HA4.out) 1 rfl
       have b3 : (0 : Int) ≤ (i : Int) := by omega
       have b4 : (i : Int) < 7 := by omega
       have b5 : (0 : Int) ≤ (kk : Int) := by omega
       have b6 : (kk : Int) < (g.kinds.length : Int) := by omega
       have ho5 := World.ownsRow.alloc HO4.out (.cells #[.string ⟨#[]⟩, .string ⟨#[98]⟩, .string ⟨#[97, 98, 99, 100, 101, 102, 103, 104]⟩, .string ⟨#[97, 98, 99, 100, 101, 102, 103, 104, 105]⟩, .string ⟨#[65]⟩, .string ⟨#[97, 32, 98]⟩, .string ⟨#[98, 101, 101]⟩] 9)
       have hfl := flatK_len g.kinds pvs HPL.out
       obtain ⟨n0, hn0⟩ : ∃ n0, (flatK g.kinds pvs)[kk * 3]? = some n0 := ⟨_, (flatK_at g.kinds pvs kk hkk HPL.out).1⟩
       have hk0 : (w4.alloc (.cells #[.string ⟨#[]⟩, .string ⟨#[98]⟩, .string ⟨#[97, 98, 99, 100, 101, 102, 103, 104]⟩, .string ⟨#[97, 98, 99, 100, 101, 102, 103, 104, 105]⟩, .string ⟨#[65]⟩, .string ⟨#[97, 32, 98]⟩, .string ⟨#[98, 101, 101]⟩] 9)).cell? ⟨gk, kk * 3, none⟩ = some n0 := (World.ownsRow.cellAt ho5 (kk * 3) (by omega)).trans hn0
       have hf0 := World.ownsRow.frozenAt ho5 (kk * 3)
       generalize names7[i]?.getD [] = nm at *
       have hgk := (World.ownsRow.lt ho5 gk rfl).1
       have halT := alters_cell (w4.alloc (.cells #[.string ⟨#[]⟩, .string ⟨#[98]⟩, .string ⟨#[97, 98, 99, 100, 101, 102, 103, 104]⟩, .string ⟨#[97, 98, 99, 100, 101, 102, 103, 104, 105]⟩, .string ⟨#[65]⟩, .string ⟨#[97, 32, 98]⟩, .string ⟨#[98, 101, 101]⟩] 9)) gk (kk * 3) (.string ⟨nm.toArray⟩)
       have hT : ((w4.alloc (.cells #[.string ⟨#[]⟩, .string ⟨#[98]⟩, .string ⟨#[97, 98, 99, 100, 101, 102, 103, 104]⟩, .string ⟨#[97, 98, 99, 100, 101, 102, 103, 104, 105]⟩, .string ⟨#[65]⟩, .string ⟨#[97, 32, 98]⟩, .string ⟨#[98, 101, 101]⟩] 9)).setCell ⟨gk, kk * 3, none⟩ (.string ⟨nm.toArray⟩)).heap[gb]? = some (.cells _ 38 (0, 0)) := (halT.block gb (bx_lt (hpo hx4)) (fun e => by have e : gb = gk := e; omega)).trans (hpo hx4)
       have hZ : ((w4.alloc (.cells #[.string ⟨#[]⟩, .string ⟨#[98]⟩, .string ⟨#[97, 98, 99, 100, 101, 102, 103, 104]⟩, .string ⟨#[97, 98, 99, 100, 101, 102, 103, 104, 105]⟩, .string ⟨#[65]⟩, .string ⟨#[97, 32, 98]⟩, .string ⟨#[98, 101, 101]⟩] 9)).setCell ⟨gk, kk * 3, none⟩ (.string ⟨nm.toArray⟩)).heap[gb + 2]? = some (.cells zeroC 38 (0, 0)) := (halT.block (gb + 2) (bx_lt (hpo hz4)) (fun e => by have e : gb + 2 = gk := e; omega)).trans (hpo hz4)
       have hb5 : Below w.heap.size w (w4.alloc (.cells #[.string ⟨#[]⟩, .string ⟨#[98]⟩, .string ⟨#[97, 98, 99, 100, 101, 102, 103, 104]⟩, .string ⟨#[97, 98, 99, 100, 101, 102, 103, 104, 105]⟩, .string ⟨#[65]⟩, .string ⟨#[97, 32, 98]⟩, .string ⟨#[98, 101, 101]⟩] 9)) := below_step HBW4.out (below_alloc (Below.refl _ _) _)
       have hbT : Below w.heap.size w ((w4.alloc (.cells #[.string ⟨#[]⟩, .string ⟨#[98]⟩, .string ⟨#[97, 98, 99, 100, 101, 102, 103, 104]⟩, .string ⟨#[97, 98, 99, 100, 101, 102, 103, 104, 105]⟩, .string ⟨#[65]⟩, .string ⟨#[97, 32, 98]⟩, .string ⟨#[98, 101, 101]⟩] 9)).setCell ⟨gk, kk * 3, none⟩ (.string ⟨nm.toArray⟩)) := hb5.trans (halT.below hb5.size (fun k hk => by have hk : k = gk := hk; have := HGB.out; omega))
       have hoT := (World.ownsRow.stored ho5 (kk * 3) (.string ⟨nm.toArray⟩)).1
       have hml := flatK_mod (fun x => { x with name := nm }) (fun v => v) 0 (.string ⟨nm.toArray⟩) (by omega) (fun k v => rfl) g.kinds pvs kk HPL.out hkk
       rw [show pvs.modify kk (fun v => v) = pvs from List.modify_id _ _, Nat.add_zero] at hml
       rw [← hml] at hoT
       have hlm : (g.kinds.modify kk fun x => { x with name := nm }).length = g.kinds.length := List.length_modify ..
       have HEND : Hid (SpoEnd F w gb (spoiltS g a b c) (.slice (some ⟨gk, 0, none⟩) g.kinds.length capk) ((w4.alloc (.cells #[.string ⟨#[]⟩, .string ⟨#[98]⟩, .string ⟨#[97, 98, 99, 100, 101, 102, 103, 104]⟩, .string ⟨#[97, 98, 99, 100, 101, 102, 103, 104, 105]⟩, .string ⟨#[65]⟩, .string ⟨#[97, 32, 98]⟩, .string ⟨#[98, 101, 101]⟩] 9)).setCell ⟨gk, kk * 3, none⟩ (.string ⟨nm.toArray⟩))) := Lib.hid (by
         rw [HSP.out]
         refine ⟨_, hT, hZ, hbT, { y with ak := some ⟨gk, 0, none⟩, ck := capk }, by unfold GameD.cells; dsimp only; rw [hlm]; rfl, fun W' hal => ?_⟩
         have hlow := low_of hbT HGB.out hal
         have hg := HG0.out W' hlow
         refine ⟨hg.board, kinds_same (ks := g.kinds.modify kk fun x => { x with name := nm }) HFL.out hbT HGB.out hgl hal (by rw [hlm]; exact HPL.out) (by rw [hlm]; exact hoT) (fun i hi => ?_), hg.clauses⟩
         obtain ⟨aj, cj, e, hp⟩ := HPV.out i (by rw [hlm] at hi; exact hi)
         have hpe : ((g.kinds.modify kk fun x => { x with name := nm })[i]'hi).progs = (g.kinds[i]'(by rw [hlm] at hi; exact hi)).progs := by
           rw [List.getElem_modify]; split <;> rfl
         rw [hpe]
         exact ⟨aj, cj, e, hp⟩)
       clear hT hZ hb5 hbT hoT hml hlm halT
       go_wp2_with fail
       go_meet
       exact ⟨_, rfl, HEND.out⟩
     ·
       have x7 : ((u8w b : Nat) : Int).tmod 4 = ((u8w b % 4 : Nat) : Int) := rfl
       have HSP : Hid (spoiltS g a b c = { g with kinds := g.kinds ++ [⟨names4[u8w b % 4]?.getD [], [], false⟩] }) := Lib.hid (by unfold spoiltS; rw [HM.out]; rfl)
       obtain ⟨i, hi⟩ : ∃ i, u8w b % 4 = i := ⟨_, rfl⟩
       have hi7 : i < 4 := by omega
       rw [hi] at x7 HSP
       clear hi
       have x8 : IntKind.u8.wrap ((i : Nat) : Int) = (i : Int) := by
         rcases (show i = 0 ∨ i = 1 ∨ i = 2 ∨ i = 3 by omega) with rfl | rfl | rfl | rfl <;> decide
       have hst : (w4.alloc (.cells #[.string ⟨#[]⟩, .string ⟨#[98]⟩, .string ⟨#[97]⟩, .string ⟨#[97, 98, 99, 100, 101, 102, 103, 104]⟩] 9)).cell? ⟨w4.heap.size, i, none⟩ = some (.string ⟨(names4[i]?.getD []).toArray⟩) := by
         rcases (show i = 0 ∨ i = 1 ∨ i = 2 ∨ i = 3 by omega) with rfl | rfl | rfl | rfl <;> exact cell_new_at _ _ _ _ _ _ rfl rfl
       have hz1 : (w4.alloc (.cells #[.string ⟨#[]⟩, .string ⟨#[98]⟩, .string ⟨#[97]⟩, .string ⟨#[97, 98, 99, 100, 101, 102, 103, 104]⟩] 9)).cell? ⟨gb + 1, 1, none⟩ = some (.int .i8 b) := bx_cell (hpo HA4.out) 1 rfl
       have b3 : (0 : Int) ≤ (i : Int) := by omega
       have b4 : (i : Int) < 4 := by omega
       generalize names4[i]?.getD [] = nm at *
       have ho6 := World.ownsRow.alloc (World.ownsRow.alloc HO4.out (.cells #[.string ⟨#[]⟩, .string ⟨#[98]⟩, .string ⟨#[97]⟩, .string ⟨#[97, 98, 99, 100, 101, 102, 103, 104]⟩] 9)) (.cells #[.string ⟨nm.toArray⟩, .slice none 0 0, .bool false] 63)
       have hgk := (World.ownsRow.lt ho6 gk rfl).1
       have hK6 : ((w4.alloc (.cells #[.string ⟨#[]⟩, .string ⟨#[98]⟩, .string ⟨#[97]⟩, .string ⟨#[97, 98, 99, 100, 101, 102, 103, 104]⟩] 9)).alloc (.cells #[.string ⟨nm.toArray⟩, .slice none 0 0, .bool false] 63)).heap[w4.heap.size + 1]? = some (.cells ([.string ⟨nm.toArray⟩, .slice none 0 0, .bool false] : List Value).toArray 63 (0, 0)) := hpn _ (by simp)
       have hX6 := Lib.hid (show ((w4.alloc (.cells #[.string ⟨#[]⟩, .string ⟨#[98]⟩, .string ⟨#[97]⟩, .string ⟨#[97, 98, 99, 100, 101, 102, 103, 104]⟩] 9)).alloc (.cells #[.string ⟨nm.toArray⟩, .slice none 0 0, .bool false] 63)).heap[gb]? = _ from hpo (hpo hx4))
       have hZ6 := Lib.hid (show ((w4.alloc (.cells #[.string ⟨#[]⟩, .string ⟨#[98]⟩, .string ⟨#[97]⟩, .string ⟨#[97, 98, 99, 100, 101, 102, 103, 104]⟩] 9)).alloc (.cells #[.string ⟨nm.toArray⟩, .slice none 0 0, .bool false] 63)).heap[gb + 2]? = _ from hpo (hpo hz4))
       have hB6 := Lib.hid (show Below w.heap.size w ((w4.alloc (.cells #[.string ⟨#[]⟩, .string ⟨#[98]⟩, .string ⟨#[97]⟩, .string ⟨#[97, 98, 99, 100, 101, 102, 103, 104]⟩] 9)).alloc (.cells #[.string ⟨nm.toArray⟩, .slice none 0 0, .bool false] 63)) from below_step HBW4.out (below_alloc (below_alloc (Below.refl _ _) _) _))
       have hh6 : h2 ≤ ((w4.alloc (.cells #[.string ⟨#[]⟩, .string ⟨#[98]⟩, .string ⟨#[97]⟩, .string ⟨#[97, 98, 99, 100, 101, 102, 103, 104]⟩] 9)).alloc (.cells #[.string ⟨nm.toArray⟩, .slice none 0 0, .bool false] 63)).heap.size := by have := HS2.out; simp; omega
       go_wp2_with (refine wpList_pushC rfl 35 63 _ 3 48 Tryz.underlying35 info_kindC rfl (by decide) (by decide) (.tmp 56) (.tmp 65) rfl h2 _ g.kinds.length (flatK g.kinds pvs) rfl ho6 (by omega) hh6 (w4.heap.size + 1) 1 [.string ⟨nm.toArray⟩, .slice none 0 0, .bool false] rfl rfl hK6 (by simp [Value.oneCell']) ?_; intro g7 cap7 w7 ho7 hg7 hor7)
       have hal7 := Alters.of_grown hg7
       have hT : w7.heap[gb]? = some (.cells _ 38 (0, 0)) := (hal7.block gb (bx_lt hX6.out) (fun e => by have e : some gb = some gk := e; injection e with e; omega)).trans hX6.out
       have hZ : w7.heap[gb + 2]? = some (.cells zeroC 38 (0, 0)) := (hal7.block (gb + 2) (bx_lt hZ6.out) (fun e => by have e : some (gb + 2) = some gk := e; injection e with e; omega)).trans hZ6.out
       have hbT : Below w.heap.size w w7 := hB6.out.trans (hal7.below hB6.out.size (fun k hk => by have hk : some k = some gk := hk; injection hk with hk; have := HGB.out; omega))
       have hsn := flatK_snoc ⟨nm, [], false⟩ (.slice none 0 0) g.kinds pvs HPL.out
       have hlm : (g.kinds ++ [(⟨nm, [], false⟩ : KindD)]).length = g.kinds.length + 1 := by simp
       have HEND : Hid (SpoEnd F w gb (spoiltS g a b c) (.slice (some ⟨g7, 0, none⟩) (g.kinds.length + 1) cap7) w7) := Lib.hid (by
         rw [HSP.out]
         refine ⟨_, hT, hZ, hbT, { y with ak := some ⟨g7, 0, none⟩, ck := cap7 }, by unfold GameD.cells; dsimp only; rw [hlm]; rfl, fun W' hal => ?_⟩
         have hlow := low_of hbT HGB.out hal
         have hg := HG0.out W' hlow
         refine ⟨hg.board, kinds_same (ks := g.kinds ++ [⟨nm, [], false⟩]) (pvs := pvs ++ [.slice none 0 0]) HFL.out hbT HGB.out hgl hal (by rw [hlm, List.length_append, HPL.out]; rfl) (by rw [hlm, hsn]; exact ho7) (fun i hi => ?_), hg.clauses⟩
         by_cases hik : i < g.kinds.length
         · obtain ⟨aj, cj, e, hp⟩ := HPV.out i hik
           rw [List.getElem_append_left hik, List.getElem?_append_left (by rw [HPL.out]; exact hik)]
           exact ⟨aj, cj, e, hp⟩
         · obtain rfl : i = g.kinds.length := by rw [hlm] at hi; omega
           refine ⟨none, 0, ?_, ?_⟩
           · rw [List.getElem?_append_right (by rw [HPL.out]; exact Nat.le_refl _), HPL.out]; simp
           · intro V _; simp [ProgsIn])
       clear hT hZ hbT hsn hlm ho7 hg7 hor7 hal7
       go_wp2_with fail
       go_meet
       exact ⟨_, rfl, HEND.out⟩
     ·
       have HSP : Hid (spoiltS g a b c = { g with kinds := g.kinds.modify kk fun x => { x with progs := x.progs ++ [[(b, c)]] } }) := Lib.hid (by unfold spoiltS; rw [HM.out, HKK.out]; rfl)
       have x1 : IntKind.i64.wrap c = c := IntWalk.i64_in _ (by omega)
       obtain ⟨aj, cj, hpe, hpi⟩ := HPV.out kk hkk
       have hpn10 := HLI.out.progs _ (List.getElem_mem hkk)
       obtain ⟨ps, hps⟩ : ∃ ps, (g.kinds[kk]'hkk).progs = ps := ⟨_, rfl⟩
       have HPS := Lib.hid hps
       rw [hps] at hpe hpi hpn10
       clear hps
       obtain ⟨pn, hpn⟩ : ∃ pn, ps.length = pn := ⟨_, rfl⟩
       have HPN := Lib.hid hpn
       rw [hpn] at hpe hpn10
       have hbE := below_alloc (Below.refl _ w4) (.cells #[] 68)
       have hown := own_fresh w4 68 1
       have ho4 := World.ownsRow.alloc HO4.out (.cells #[] 68)
       have hfl := flatK_len g.kinds pvs HPL.out
       have hk1c : (w4.alloc (.cells #[] 68)).cell? ⟨gk, kk * 3 + 1, none⟩ = some (.slice aj pn cj) := (World.ownsRow.cellAt ho4 (kk * 3 + 1) (by omega)).trans (((flatK_at g.kinds pvs kk hkk HPL.out).2.1).trans hpe)
       obtain ⟨qs, hql, hqc, hqp0⟩ := (hpi w (Alters.refl _ _)).row
       have hqp : ∀ i (hi : i < ps.length), ∃ aa ca, qs[i]? = some (.slice aa (ps[i]'hi).length ca) ∧ ∀ V, Alters F w V → Prg V.heap.size V aa (ps[i]'hi) := fun i hi => by
         have hiq : i < qs.length := by omega
         obtain ⟨aa, ca, e, hq⟩ := steps_far (v := qs[i]) hpi hi (fun b off e => by
           rcases hqc with h | ⟨cb, co, e2, hn, hc⟩
           · omega
           · rw [e2] at e
             cases e
             rw [hc i (by omega), List.getElem?_eq_getElem hiq])
         exact ⟨aa, ca, by rw [List.getElem?_eq_getElem hiq, e], hq⟩
       clear hqp0
       rw [hpn] at hql
       clear hpn
       have hrw : pn = 0 ∨ ∃ b off, aj = some ⟨b, off, none⟩ ∧ ∀ j, j < pn * 1 → (w4.alloc (.cells #[] 68)).cell? ⟨b, off + j, none⟩ = qs[j]? := by
         rcases hqc with h | ⟨cb, co, e, hn, hc⟩
         · exact .inl (by have := HPN.out; omega)
         · exact .inr ⟨cb, co, e, fun j hj => ((below_step HBW4.out hbE).cell (p := ⟨cb, co + j, none⟩) (Nat.lt_of_lt_of_le hn HN0.out)).trans (hc j (by have := HPN.out; omega))⟩
       have hgk4 := (World.ownsRow.lt HO4.out gk rfl)
       have b5 : (0 : Int) ≤ (kk : Int) := by omega
       have b6 : (kk : Int) < (g.kinds.length : Int) := by omega
       go_wp2_with (first | (refine wpList_spread rfl 61 68 (.slice none 0 0) 1 24 Tryz.underlying61 info_progC rfl (by decide) (by decide) (.tmp 69) (.tmp 74) rfl w4.heap.size w4.heap.size rfl hown hbE.size aj pn cj qs rfl (by omega) (by omega) hrw (fun u hu => by obtain ⟨i, hi, rfl⟩ := List.mem_iff_getElem.1 hu; obtain ⟨aa, ca, e, _⟩ := hqp i (by have := HPN.out; omega); rw [List.getElem?_eq_getElem hi] at e; injection e with e; rw [e]; rfl) ?_; intro g5 cap5 w5 ho5 hg5 hor5; have hal5 := Alters.of_grown hg5; have hx5 := (hal5.block gb (bx_lt (hpo (o := (.cells #[] 68)) hx4)) (fun e => by have e : some gb = some w4.heap.size := e; injection e with e; omega)).trans (hpo (o := (.cells #[] 68)) hx4); have hz5 := (hal5.block (gb + 2) (bx_lt (hpo (o := (.cells #[] 68)) hz4)) (fun e => by have e : some (gb + 2) = some w4.heap.size := e; injection e with e; have := bx_lt hz4; omega)).trans (hpo (o := (.cells #[] 68)) hz4); have ha5 := (hal5.block (gb + 1) (bx_lt (hpo (o := (.cells #[] 68)) HA4.out)) (fun e => by have e : some (gb + 1) = some w4.heap.size := e; injection e with e; have := bx_lt hz4; omega)).trans (hpo (o := (.cells #[] 68)) HA4.out); have hok5 := World.ownsRow.kept ho4 hg5 (.inr (fun e => by have e : some gk = some w4.heap.size := e; injection e with e; omega)); have hg5l := (World.ownsRow.lt ho5 g5 rfl); have hb5 : Below w.heap.size w w5 := (below_step HBW4.out hbE).trans (hal5.below (Nat.le_trans HBW4.out.size hbE.size) (fun k hk => by have hk : some k = some w4.heap.size := hk; injection hk with hk; have := HBW4.out.size; omega)); have z2 := bx_cell ha5 2 rfl; have l5a := bx_lt ha5; clear hk1c) | (refine wpList_pushC rfl 61 68 (.slice none 0 0) 1 24 Tryz.underlying61 info_progC rfl (by decide) (by decide) (.tmp 78) (.tmp 85) rfl w4.heap.size _ pn qs rfl (World.ownsRow.alloc (World.ownsRow.alloc ho5 (.cells #[.int .i64 b, .int .i64 c] 91)) (.cells #[.slice (some ⟨w5.heap.size, 0, none⟩) 1 1] 68)) (by omega) (by simp; omega) (w5.heap.size + 1) 1 [.slice (some ⟨w5.heap.size, 0, none⟩) 1 1] rfl rfl (hpn_ _ (by simp)) (by simp [Value.oneCell']) ?_; intro g7 cap7 w7 ho7 hg7 hor7; have hal7 := Alters.of_grown hg7; have hx7 := (hal7.block gb (bx_lt (hpo (o := (.cells #[.slice (some ⟨w5.heap.size, 0, none⟩) 1 1] 68)) (hpo (o := (.cells #[.int .i64 b, .int .i64 c] 91)) hx5))) (fun e => by have e : some gb = some g5 := e; injection e with e; omega)).trans (hpo (o := (.cells #[.slice (some ⟨w5.heap.size, 0, none⟩) 1 1] 68)) (hpo (o := (.cells #[.int .i64 b, .int .i64 c] 91)) hx5)); have hz7 := (hal7.block (gb + 2) (bx_lt (hpo (o := (.cells #[.slice (some ⟨w5.heap.size, 0, none⟩) 1 1] 68)) (hpo (o := (.cells #[.int .i64 b, .int .i64 c] 91)) hz5))) (fun e => by have e : some (gb + 2) = some g5 := e; injection e with e; have := bx_lt hz4; omega)).trans (hpo (o := (.cells #[.slice (some ⟨w5.heap.size, 0, none⟩) 1 1] 68)) (hpo (o := (.cells #[.int .i64 b, .int .i64 c] 91)) hz5)); have hsb7 : w7.heap[w5.heap.size]? = some (.cells #[.int .i64 b, .int .i64 c] 91 (0, 0)) := (hal7.block w5.heap.size (by simp; omega) (fun e => by have e : some w5.heap.size = some g5 := e; injection e with e; omega)).trans (hpo (hpn_ _ rfl)); have hok7 := World.ownsRow.kept (World.ownsRow.alloc (World.ownsRow.alloc hok5 (.cells #[.int .i64 b, .int .i64 c] 91)) (.cells #[.slice (some ⟨w5.heap.size, 0, none⟩) 1 1] 68)) hg7 (.inr (fun e => by have e : some gk = some g5 := e; injection e with e; omega)); have hb7 : Below w.heap.size w w7 := (below_step hb5 (below_alloc (below_alloc (Below.refl _ _) (.cells #[.int .i64 b, .int .i64 c] 91)) (.cells #[.slice (some ⟨w5.heap.size, 0, none⟩) 1 1] 68))).trans (hal7.below (Nat.le_trans hb5.size (by simp; omega)) (fun k hk => by have hk : some k = some g5 := hk; injection hk with hk; have := HBW4.out.size; omega)); clear l5a z2; have k6 := (World.ownsRow.cellAt hok7 (kk * 3 + 1) (by omega)).trans (((flatK_at g.kinds pvs kk hkk HPL.out).2.1).trans hpe); have f6 := World.ownsRow.frozenAt hok7 (kk * 3 + 1)))
       have hg7l := World.ownsRow.lt ho7 g7 rfl
       have hst := World.ownsRow.stored hok7 (kk * 3 + 1) (.slice (some ⟨g7, 0, none⟩) (pn + 1) cap7)
       have halT := alters_cell w7 gk (kk * 3 + 1) (.slice (some ⟨g7, 0, none⟩) (pn + 1) cap7)
       have hT : (w7.setCell ⟨gk, kk * 3 + 1, none⟩ (.slice (some ⟨g7, 0, none⟩) (pn + 1) cap7)).heap[gb]? = some (.cells _ 38 (0, 0)) := (halT.block gb (bx_lt hx7) (fun e => by have e : gb = gk := e; omega)).trans hx7
       have hZ : (w7.setCell ⟨gk, kk * 3 + 1, none⟩ (.slice (some ⟨g7, 0, none⟩) (pn + 1) cap7)).heap[gb + 2]? = some (.cells zeroC 38 (0, 0)) := (halT.block (gb + 2) (bx_lt hz7) (fun e => by have e : gb + 2 = gk := e; omega)).trans hz7
       have hbT : Below w.heap.size w (w7.setCell ⟨gk, kk * 3 + 1, none⟩ (.slice (some ⟨g7, 0, none⟩) (pn + 1) cap7)) := hb7.trans (halT.below hb7.size (fun k hk => by have hk : k = gk := hk; have := HGB.out; omega))
       have hoT := hst.1
       have hml := flatK_mod (fun x => { x with progs := x.progs ++ [[(b, c)]] }) (fun _ => (.slice (some ⟨g7, 0, none⟩) (pn + 1) cap7)) 1 (.slice (some ⟨g7, 0, none⟩) (pn + 1) cap7) (by omega) (fun k v => rfl) g.kinds pvs kk HPL.out hkk
       rw [← hml] at hoT
       have hlm : (g.kinds.modify kk fun x => { x with progs := x.progs ++ [[(b, c)]] }).length = g.kinds.length := List.length_modify ..
       have hlp : (pvs.modify kk fun _ => (.slice (some ⟨g7, 0, none⟩) (pn + 1) cap7)).length = g.kinds.length := (List.length_modify ..).trans HPL.out
       have hpT : (w7.setCell ⟨gk, kk * 3 + 1, none⟩ (.slice (some ⟨g7, 0, none⟩) (pn + 1) cap7)).ownsRow w4.heap.size 68 1 (.slice (some ⟨g7, 0, none⟩) (pn + 1) cap7) (pn + 1) (qs ++ [.slice (some ⟨w5.heap.size, 0, none⟩) 1 1]) := own_low ho7 halT (fun k hk => by have hk : k = gk := hk; omega)
       have hsT : (w7.setCell ⟨gk, kk * 3 + 1, none⟩ (.slice (some ⟨g7, 0, none⟩) (pn + 1) cap7)).heap[w5.heap.size]? = some (.cells #[.int .i64 b, .int .i64 c] 91 (0, 0)) := (halT.block w5.heap.size (bx_lt hsb7) (fun e => by have e : w5.heap.size = gk := e; omega)).trans hsb7
       have HEND : Hid (SpoEnd F w gb (spoiltS g a b c) (.slice (some ⟨gk, 0, none⟩) g.kinds.length capk) (w7.setCell ⟨gk, kk * 3 + 1, none⟩ (.slice (some ⟨g7, 0, none⟩) (pn + 1) cap7))) := Lib.hid (by
         rw [HSP.out]
         refine ⟨_, hT, hZ, hbT, { y with ak := some ⟨gk, 0, none⟩, ck := capk }, by unfold GameD.cells; dsimp only; rw [hlm]; rfl, fun W' hal => ?_⟩
         have hlow := low_of hbT HGB.out hal
         have hg := HG0.out W' hlow
         have hz4l := bx_lt hz4
         have hoW := own_low hoT hal (fun k hk => by rcases hk with h | h | h <;> first | omega | (have := HFL.out k h; omega))
         have hpW := own_low hpT hal (fun k hk => by rcases hk with h | h | h <;> first | omega | (have := HFL.out k h; omega))
         have hsW : W'.heap[w5.heap.size]? = some (.cells #[.int .i64 b, .int .i64 c] 91 (0, 0)) := (hal.block w5.heap.size (bx_lt hsT) (fun e => by rcases e with e | e | e <;> first | omega | (have := HFL.out _ e; omega))).trans hsT
         have hpl7 := (World.ownsRow.lt hpW g7 rfl).2
         rw [← hlm] at hoW
         obtain ⟨a', c', e', h'⟩ := KRow.in_ (h := h2) (W := W') (ks := g.kinds.modify kk fun x => { x with progs := x.progs ++ [[(b, c)]] }) (pvs := pvs.modify kk fun _ => (.slice (some ⟨g7, 0, none⟩) (pn + 1) cap7)) ⟨by rw [hlp, hlm], by rw [hlm] at hoW ⊢; exact hoW, fun i hi => by
           have hi2 : i < g.kinds.length := by rw [hlm] at hi; exact hi
           by_cases hik : kk = i
           · subst hik
             have hpe2 : ((g.kinds.modify kk fun x => { x with progs := x.progs ++ [[(b, c)]] })[kk]'hi).progs = ps ++ [[(b, c)]] := by
               rw [List.getElem_modify, if_pos rfl]; show (g.kinds[kk]'hi2).progs ++ _ = _; rw [HPS.out]
             rw [hpe2, List.length_append, HPN.out, List.getElem?_modify, hpe]
             refine ⟨some ⟨g7, 0, none⟩, cap7, by simp, .inr ⟨g7, 0, rfl, hpl7, fun j hj => ?_⟩⟩
             have hj' : j < pn + 1 := by rw [List.length_append, HPN.out] at hj; exact hj
             rw [Nat.zero_add, World.ownsRow.cellAt hpW j (by omega)]
             by_cases hjp : j < pn
             · obtain ⟨aa, ca, e, hq⟩ := hqp j (by rw [HPN.out]; exact hjp)
               rw [List.getElem?_append_left (by omega), List.getElem_append_left (by rw [HPN.out]; exact hjp)]
               exact ⟨aa, ca, e, hq W' hlow⟩
             · obtain rfl : j = pn := by omega
               refine ⟨some ⟨w5.heap.size, 0, none⟩, 1, ?_, .inr ⟨w5.heap.size, 0, rfl, bx_lt hsW, fun r hr => ?_⟩⟩
               · rw [List.getElem?_append_right (by omega)]
                 simp [hql, HPN.out]
               · have hlast : (ps ++ [[(b, c)]])[j]'hj = [(b, c)] := by rw [List.getElem_append_right (by rw [HPN.out]; exact Nat.le_refl _)]; simp
                 rw [hlast] at hr ⊢
                 obtain rfl : r = 0 := by simpa using hr
                 exact ⟨bx_cell hsW 0 rfl, bx_cell hsW 1 rfl⟩
           · obtain ⟨aj', cj', e, hp⟩ := HPV.out i hi2
             have hpe2 : ((g.kinds.modify kk fun x => { x with progs := x.progs ++ [[(b, c)]] })[i]'hi).progs = (g.kinds[i]'hi2).progs := by
               rw [List.getElem_modify, if_neg hik]
             rw [hpe2, List.getElem?_modify, e]
             exact ⟨aj', cj', by simp [hik], hp W' hlow⟩⟩
         rw [hlm] at e'
         cases e'
         exact ⟨hg.board, h', hg.clauses⟩)
       clear hT hZ hbT hoT hml hlm halT hst hpT hsT hlp
       go_wp2_with fail
       go_meet
       exact ⟨_, rfl, HEND.out⟩
     ·
       have HSP : Hid (spoiltS g a b c = { g with clauses := g.clauses ++ [⟨1 + ((u8w c % 4 : Nat) : Int), b.tmod 3, b, 1 + ((u8w c % 3 : Nat) : Int)⟩] }) := Lib.hid (by unfold spoiltS; rw [HM.out]; rfl)
       have x1 : ((u8w c : Nat) : Int).tmod 4 = ((u8w c % 4 : Nat) : Int) := rfl
       have x2 : ((u8w c : Nat) : Int).tmod 3 = ((u8w c % 3 : Nat) : Int) := rfl
       have x3 : IntKind.i64.wrap ((u8w c % 4 : Nat) : Int) = ((u8w c % 4 : Nat) : Int) := IntWalk.i64_in _ (by omega)
       have x4 : IntKind.i64.wrap ((u8w c % 3 : Nat) : Int) = ((u8w c % 3 : Nat) : Int) := IntWalk.i64_in _ (by omega)
       have x5 : IntKind.i64.wrap (1 + ((u8w c % 4 : Nat) : Int)) = 1 + ((u8w c % 4 : Nat) : Int) := IntWalk.i64_in _ (by omega)
       have x6 : IntKind.i64.wrap (1 + ((u8w c % 3 : Nat) : Int)) = 1 + ((u8w c % 3 : Nat) : Int) := IntWalk.i64_in _ (by omega)
       have x7 : IntKind.i64.wrap (b.tmod 3) = b.tmod 3 := IntWalk.i64_in _ (by have := tmod3 b; omega)
       have hcl := HLI.out.clauses
       have hrow := (HG0.out w (Alters.refl _ _)).clauses.row
       have hbE := below_alloc (Below.refl _ w4) (.cells #[] 70)
       have hown := own_fresh w4 70 4
       have q6 := bx_cell (hpo (o := (.cells #[] 70)) hx4) 6 rfl
       have hrw : g.clauses.length = 0 ∨ ∃ b off, y.ac = some ⟨b, off, none⟩ ∧ ∀ j, j < g.clauses.length * 4 → (w4.alloc (.cells #[] 70)).cell? ⟨b, off + j, none⟩ = (flatC g.clauses)[j]? := by
         rcases hrow with h | ⟨cb, co, e, hn, hc⟩
         · exact .inl h
         · exact .inr ⟨cb, co, e, fun j hj => ((below_step HBW4.out hbE).cell (p := ⟨cb, co + j, none⟩) (Nat.lt_of_lt_of_le hn HN0.out)).trans (hc j hj)⟩
       have hgk4 := (World.ownsRow.lt HO4.out gk rfl)
       go_wp2_with (first | (refine wpList_spread rfl 36 70 _ 4 32 Tryz.underlying36 info_clauseC rfl (by decide) (by decide) (.tmp 91) (.tmp 93) rfl w4.heap.size w4.heap.size rfl hown hbE.size y.ac g.clauses.length y.cc (flatC g.clauses) rfl (flatC_len _) (by omega) hrw (flatC_one _) ?_; intro g5 cap5 w5 ho5 hg5 hor5; have hal5 := Alters.of_grown hg5; have hx5 := (hal5.block gb (bx_lt (hpo (o := (.cells #[] 70)) hx4)) (fun e => by have e : some gb = some w4.heap.size := e; injection e with e; omega)).trans (hpo (o := (.cells #[] 70)) hx4); have hz5 := (hal5.block (gb + 2) (bx_lt (hpo (o := (.cells #[] 70)) hz4)) (fun e => by have e : some (gb + 2) = some w4.heap.size := e; injection e with e; have := bx_lt hz4; omega)).trans (hpo (o := (.cells #[] 70)) hz4); have ha5 := (hal5.block (gb + 1) (bx_lt (hpo (o := (.cells #[] 70)) HA4.out)) (fun e => by have e : some (gb + 1) = some w4.heap.size := e; injection e with e; have := bx_lt hz4; omega)).trans (hpo (o := (.cells #[] 70)) HA4.out); have hok5 := World.ownsRow.kept (World.ownsRow.alloc HO4.out (.cells #[] 70)) hg5 (.inr (fun e => by have e : some gk = some w4.heap.size := e; injection e with e; omega)); have hg5l := (World.ownsRow.lt ho5 g5 rfl); have hb5 : Below w.heap.size w w5 := (below_step HBW4.out hbE).trans (hal5.below (Nat.le_trans HBW4.out.size hbE.size) (fun k hk => by have hk : some k = some w4.heap.size := hk; injection hk with hk; have := HBW4.out.size; omega)); have z2 := bx_cell ha5 2 rfl; have f6 := bx_frozen hx5 6; have k6 := bx_cell hx5 6 rfl; have l5 := bx_lt hx5; have l5a := bx_lt ha5) | (refine wpList_pushC rfl 36 70 _ 4 32 Tryz.underlying36 info_clauseC rfl (by decide) (by decide) (.tmp 95) (.tmp 112) rfl w4.heap.size _ g.clauses.length (flatC g.clauses) rfl (World.ownsRow.alloc ho5 (.cells #[.int .i64 (1 + ((u8w c % 4 : Nat) : Int)), .int .i64 (b.tmod 3), .int .i64 b, .int .i64 (1 + ((u8w c % 3 : Nat) : Int))] 70)) (by omega) (by simp; omega) w5.heap.size 1 [.int .i64 (1 + ((u8w c % 4 : Nat) : Int)), .int .i64 (b.tmod 3), .int .i64 b, .int .i64 (1 + ((u8w c % 3 : Nat) : Int))] rfl rfl (hpn _ rfl) (by simp [Value.oneCell']) ?_; intro g7 cap7 w7 ho7 hg7 hor7; have hal7 := Alters.of_grown hg7; have hx7 := (hal7.block gb (bx_lt (hpo (o := (.cells #[.int .i64 (1 + ((u8w c % 4 : Nat) : Int)), .int .i64 (b.tmod 3), .int .i64 b, .int .i64 (1 + ((u8w c % 3 : Nat) : Int))] 70)) hx5)) (fun e => by have e : some gb = some g5 := e; injection e with e; omega)).trans (hpo (o := (.cells #[.int .i64 (1 + ((u8w c % 4 : Nat) : Int)), .int .i64 (b.tmod 3), .int .i64 b, .int .i64 (1 + ((u8w c % 3 : Nat) : Int))] 70)) hx5); have hz7 := (hal7.block (gb + 2) (bx_lt (hpo (o := (.cells #[.int .i64 (1 + ((u8w c % 4 : Nat) : Int)), .int .i64 (b.tmod 3), .int .i64 b, .int .i64 (1 + ((u8w c % 3 : Nat) : Int))] 70)) hz5)) (fun e => by have e : some (gb + 2) = some g5 := e; injection e with e; have := bx_lt hz4; omega)).trans (hpo (o := (.cells #[.int .i64 (1 + ((u8w c % 4 : Nat) : Int)), .int .i64 (b.tmod 3), .int .i64 b, .int .i64 (1 + ((u8w c % 3 : Nat) : Int))] 70)) hz5); have hok7 := World.ownsRow.kept (World.ownsRow.alloc hok5 (.cells #[.int .i64 (1 + ((u8w c % 4 : Nat) : Int)), .int .i64 (b.tmod 3), .int .i64 b, .int .i64 (1 + ((u8w c % 3 : Nat) : Int))] 70)) hg7 (.inr (fun e => by have e : some gk = some g5 := e; injection e with e; omega)); have hb7 : Below w.heap.size w w7 := (below_step hb5 (below_alloc (Below.refl _ _) (.cells #[.int .i64 (1 + ((u8w c % 4 : Nat) : Int)), .int .i64 (b.tmod 3), .int .i64 b, .int .i64 (1 + ((u8w c % 3 : Nat) : Int))] 70))).trans (hal7.below (Nat.le_trans hb5.size (by simp)) (fun k hk => by have hk : some k = some g5 := hk; injection hk with hk; have := HBW4.out.size; omega)); clear f6 k6 l5 l5a z2; have f6 := bx_frozen hx7 6; have k6 := bx_cell hx7 6 rfl; have l5 := bx_lt hx7))
       have hT := bx_set_ hx7 6 (.slice (some ⟨g7, 0, none⟩) (g.clauses.length + 1) cap7)
       simp only [List.setIfInBounds_toArray, List.set_cons_zero, List.set_cons_succ] at hT
       have halT := alters_cell w7 gb 6 (.slice (some ⟨g7, 0, none⟩) (g.clauses.length + 1) cap7)
       have hZ : (w7.setCell ⟨gb, 6, none⟩ (.slice (some ⟨g7, 0, none⟩) (g.clauses.length + 1) cap7)).heap[gb + 2]? = some (.cells zeroC 38 (0, 0)) := (halT.block (gb + 2) (bx_lt hz7) (fun e => by have e : gb + 2 = gb := e; omega)).trans hz7
       have hbT : Below w.heap.size w (w7.setCell ⟨gb, 6, none⟩ (.slice (some ⟨g7, 0, none⟩) (g.clauses.length + 1) cap7)) := hb7.trans (halT.below hb7.size (fun k hk => by have hk : k = gb := hk; have := HGB.out; omega))
       have hoT := own_low hok7 halT (fun k hk => by have hk : k = gb := hk; omega)
       have hcT := own_low ho7 halT (fun k hk => by have hk : k = gb := hk; omega)
       have hlm : (g.clauses ++ [(⟨1 + ((u8w c % 4 : Nat) : Int), b.tmod 3, b, 1 + ((u8w c % 3 : Nat) : Int)⟩ : ClauseD)]).length = g.clauses.length + 1 := by simp
       have HEND : Hid (SpoEnd F w gb (spoiltS g a b c) (.slice (some ⟨gk, 0, none⟩) g.kinds.length capk) (w7.setCell ⟨gb, 6, none⟩ (.slice (some ⟨g7, 0, none⟩) (g.clauses.length + 1) cap7))) := Lib.hid (by
         rw [HSP.out]
         refine ⟨_, hT, hZ, hbT, { y with ak := some ⟨gk, 0, none⟩, ck := capk, ac := some ⟨g7, 0, none⟩, cc := cap7 }, by unfold GameD.cells; dsimp only; rw [hlm]; rfl, fun W' hal => ?_⟩
         have hlow := low_of hbT HGB.out hal
         have hg := HG0.out W' hlow
         refine ⟨hg.board, kinds_same HFL.out hbT HGB.out hgl hal HPL.out hoT HPV.out, ?_⟩
         have hcW := own_low hcT hal (fun k hk => by have := bx_lt hz4; rcases hk with h | h | h <;> first | omega | (have := HFL.out k h; omega))
         rw [← flatC_snoc ⟨1 + ((u8w c % 4 : Nat) : Int), b.tmod 3, b, 1 + ((u8w c % 3 : Nat) : Int)⟩ g.clauses, ← hlm] at hcW
         obtain ⟨a', c', e', h'⟩ := clauses_in hcW
         cases e'
         exact h')
       clear hT hZ hbT hoT hcT hlm halT
       go_meet
       exact ⟨_, rfl, HEND.out⟩
     · have y9 : IntKind.i64.wrap (g.b.cells + b) = g.b.cells + b := IntWalk.i64_in _ (by have := HLI.out.cells; omega)
       have HSP : Hid (spoiltS g a b c = { g with b := { g.b with cells := g.b.cells + b } }) := Lib.hid (by unfold spoiltS; rw [HM.out]; rfl)
       have hT := bx_set_ hx4 0 (.int .i64 (g.b.cells + b))
       simp only [List.setIfInBounds_toArray, List.set_cons_zero] at hT
       have hal4 := alters_cell w4 gb 0 (.int .i64 (g.b.cells + b))
       have hZ : (w4.setCell ⟨gb, 0, none⟩ (.int .i64 (g.b.cells + b))).heap[gb + 2]? = some (.cells zeroC 38 (0, 0)) := (hal4.block (gb + 2) (bx_lt hz4) (fun e => by have e : gb + 2 = gb := e; omega)).trans hz4
       have hbT : Below w.heap.size w (w4.setCell ⟨gb, 0, none⟩ (.int .i64 (g.b.cells + b))) := HBW4.out.trans (hal4.below HBW4.out.size (fun k hk => by have hk : k = gb := hk; have := HGB.out; omega))
       have hoT := own_low HO4.out hal4 (fun k hk => by have hk : k = gb := hk; omega)
       have HEND : Hid (SpoEnd F w gb (spoiltS g a b c) (.slice (some ⟨gk, 0, none⟩) g.kinds.length capk) (w4.setCell ⟨gb, 0, none⟩ (.int .i64 (g.b.cells + b)))) := Lib.hid (by
         rw [HSP.out]
         refine ⟨_, hT, hZ, hbT, { y with ak := some ⟨gk, 0, none⟩, ck := capk }, rfl, fun W' hal => ?_⟩
         have hlow := low_of hbT HGB.out hal
         have hg := HG0.out W' hlow
         exact ⟨⟨hg.board.1, hg.board.2⟩, kinds_same HFL.out hbT HGB.out hgl hal HPL.out hoT HPV.out, hg.clauses⟩)
       clear hT hZ hbT hoT hal4
       have f0 := fr 0
       have k0 := bx_cell hx4 0 rfl
       go_wp2_with fail
       go_meet
       exact ⟨_, rfl, HEND.out⟩
     ·
       have HSP : Hid (spoiltS g a b c = { g with b := { g.b with turn := g.b.turn ++ [b] } }) := Lib.hid (by unfold spoiltS; rw [HM.out]; rfl)
       have hcl := HLI.out.turn
       have hbE := below_alloc (Below.refl _ w4) (.cells #[] 3)
       have hown := own_fresh w4 3 1
       have q6 := bx_cell (hpo (o := (.cells #[] 3)) hx4) 2 rfl
       have hrw : g.b.turn.length = 0 ∨ ∃ b off, y.at_ = some ⟨b, off, none⟩ ∧ ∀ j, j < g.b.turn.length * 1 → (w4.alloc (.cells #[] 3)).cell? ⟨b, off + j, none⟩ = (g.b.turn.map (Value.int .i64))[j]? := by
         rcases (HG0.out w (Alters.refl _ _)).board.2 with h | ⟨cb, co, e, hn, hc⟩
         · exact .inl (by rw [h]; rfl)
         · exact .inr ⟨cb, co, e, fun j hj => ((below_step HBW4.out hbE).cell (p := ⟨cb, co + j, none⟩) (Nat.lt_of_lt_of_le hn HN0.out)).trans ((hc j (by omega)).trans (by rw [List.getElem?_map, List.getElem?_eq_getElem (show j < g.b.turn.length by omega)]; rfl))⟩
       have hgk4 := (World.ownsRow.lt HO4.out gk rfl)
       go_wp2_with (first | (refine wpList_spread rfl 32 3 (.int .i64 0) 1 8 Tryz.underlying32 info_intS rfl (by decide) (by decide) (.tmp 126) (.tmp 129) rfl w4.heap.size w4.heap.size rfl hown hbE.size y.at_ g.b.turn.length y.ct (g.b.turn.map (Value.int .i64)) rfl (by rw [List.length_map, Nat.mul_one]) (by omega) hrw (fun u hu => by obtain ⟨z, _, rfl⟩ := List.mem_map.1 hu; rfl) ?_; intro g5 cap5 w5 ho5 hg5 hor5; have hal5 := Alters.of_grown hg5; have hx5 := (hal5.block gb (bx_lt (hpo (o := (.cells #[] 3)) hx4)) (fun e => by have e : some gb = some w4.heap.size := e; injection e with e; omega)).trans (hpo (o := (.cells #[] 3)) hx4); have hz5 := (hal5.block (gb + 2) (bx_lt (hpo (o := (.cells #[] 3)) hz4)) (fun e => by have e : some (gb + 2) = some w4.heap.size := e; injection e with e; have := bx_lt hz4; omega)).trans (hpo (o := (.cells #[] 3)) hz4); have hok5 := World.ownsRow.kept (World.ownsRow.alloc HO4.out (.cells #[] 3)) hg5 (.inr (fun e => by have e : some gk = some w4.heap.size := e; injection e with e; omega)); have hg5l := (World.ownsRow.lt ho5 g5 rfl); have hb5 : Below w.heap.size w w5 := (below_step HBW4.out hbE).trans (hal5.below (Nat.le_trans HBW4.out.size hbE.size) (fun k hk => by have hk : some k = some w4.heap.size := hk; injection hk with hk; have := HBW4.out.size; omega)); have f6 := bx_frozen hx5 2; have k6 := bx_cell hx5 2 rfl; have l5 := bx_lt hx5; have hals := alters_cell w5 gb 2 (.slice (some ⟨g5, 0, none⟩) g.b.turn.length cap5); have hx6 := bx_set_ hx5 2 (.slice (some ⟨g5, 0, none⟩) g.b.turn.length cap5); simp only [List.setIfInBounds_toArray, List.set_cons_zero, List.set_cons_succ] at hx6; have hz6 := (hals.block (gb + 2) (bx_lt hz5) (fun e => by have e : gb + 2 = gb := e; omega)).trans hz5; have hok6 := own_low hok5 hals (fun k hk => by have hk : k = gb := hk; omega); have ho6 := own_low ho5 hals (fun k hk => by have hk : k = gb := hk; omega); have hb6 : Below w.heap.size w (w5.setCell ⟨gb, 2, none⟩ (.slice (some ⟨g5, 0, none⟩) g.b.turn.length cap5)) := hb5.trans (hals.below hb5.size (fun k hk => by have hk : k = gb := hk; have := HGB.out; omega)); have k7 := bx_cell hx6 2 rfl) | (refine wpList_pushC rfl 32 3 (.int .i64 0) 1 8 Tryz.underlying32 info_intS rfl (by decide) (by decide) (.tmp 135) (.tmp 137) rfl w4.heap.size _ g.b.turn.length (g.b.turn.map (Value.int .i64)) rfl (World.ownsRow.alloc ho6 (.cells #[.int .i64 b] 3)) (by omega) (by simp; omega) w5.heap.size 1 [.int .i64 b] rfl rfl (hpn _ (by simp [World.setCell])) (by simp [Value.oneCell']) ?_; intro g7 cap7 w7 ho7 hg7 hor7; have hal7 := Alters.of_grown hg7; have hx7 := (hal7.block gb (bx_lt (hpo (o := (.cells #[.int .i64 b] 3)) hx6)) (fun e => by have e : some gb = some g5 := e; injection e with e; omega)).trans (hpo (o := (.cells #[.int .i64 b] 3)) hx6); have hz7 := (hal7.block (gb + 2) (bx_lt (hpo (o := (.cells #[.int .i64 b] 3)) hz6)) (fun e => by have e : some (gb + 2) = some g5 := e; injection e with e; have := bx_lt hz4; omega)).trans (hpo (o := (.cells #[.int .i64 b] 3)) hz6); have hok7 := World.ownsRow.kept (World.ownsRow.alloc hok6 (.cells #[.int .i64 b] 3)) hg7 (.inr (fun e => by have e : some gk = some g5 := e; injection e with e; omega)); have hb7 : Below w.heap.size w w7 := (below_step hb6 (below_alloc (Below.refl _ _) (.cells #[.int .i64 b] 3))).trans (hal7.below (Nat.le_trans hb6.size (by simp)) (fun k hk => by have hk : some k = some g5 := hk; injection hk with hk; have := HBW4.out.size; omega)); clear f6 k6 l5 k7; have f6 := bx_frozen hx7 2; have k6 := bx_cell hx7 2 rfl; have l5 := bx_lt hx7))
       have hT := bx_set_ hx7 2 (.slice (some ⟨g7, 0, none⟩) (g.b.turn.length + 1) cap7)
       simp only [List.setIfInBounds_toArray, List.set_cons_zero, List.set_cons_succ] at hT
       have halT := alters_cell w7 gb 2 (.slice (some ⟨g7, 0, none⟩) (g.b.turn.length + 1) cap7)
       have hZ : (w7.setCell ⟨gb, 2, none⟩ (.slice (some ⟨g7, 0, none⟩) (g.b.turn.length + 1) cap7)).heap[gb + 2]? = some (.cells zeroC 38 (0, 0)) := (halT.block (gb + 2) (bx_lt hz7) (fun e => by have e : gb + 2 = gb := e; omega)).trans hz7
       have hbT : Below w.heap.size w (w7.setCell ⟨gb, 2, none⟩ (.slice (some ⟨g7, 0, none⟩) (g.b.turn.length + 1) cap7)) := hb7.trans (halT.below hb7.size (fun k hk => by have hk : k = gb := hk; have := HGB.out; omega))
       have hoT := own_low hok7 halT (fun k hk => by have hk : k = gb := hk; omega)
       have hcT := own_low ho7 halT (fun k hk => by have hk : k = gb := hk; omega)
       have hlm : (g.b.turn ++ [b]).length = g.b.turn.length + 1 := by simp
       have HEND : Hid (SpoEnd F w gb (spoiltS g a b c) (.slice (some ⟨gk, 0, none⟩) g.kinds.length capk) (w7.setCell ⟨gb, 2, none⟩ (.slice (some ⟨g7, 0, none⟩) (g.b.turn.length + 1) cap7))) := Lib.hid (by
         rw [HSP.out]
         refine ⟨_, hT, hZ, hbT, { y with ak := some ⟨gk, 0, none⟩, ck := capk, at_ := some ⟨g7, 0, none⟩, ct := cap7 }, by unfold GameD.cells; dsimp only; rw [hlm]; rfl, fun W' hal => ?_⟩
         have hlow := low_of hbT HGB.out hal
         have hg := HG0.out W' hlow
         refine ⟨⟨hg.board.1, ?_⟩, kinds_same HFL.out hbT HGB.out hgl hal HPL.out hoT HPV.out, hg.clauses⟩
         have hcW := own_low hcT hal (fun k hk => by have := bx_lt hz4; rcases hk with h | h | h <;> first | omega | (have := HFL.out k h; omega))
         have hlt := (World.ownsRow.lt hcW g7 rfl).2
         refine .inr ⟨g7, 0, rfl, hlt, fun j hj => ?_⟩
         have hj : j < (g.b.turn ++ [b]).length := hj
         rw [Nat.zero_add, World.ownsRow.cellAt hcW j (by rw [hlm] at hj; omega)]
         have he : g.b.turn.map (Value.int .i64) ++ [.int .i64 b] = (g.b.turn ++ [b]).map (Value.int .i64) := by simp
         rw [he, List.getElem?_map, List.getElem?_eq_getElem hj]; rfl)
       clear hT hZ hbT hoT hcT hlm halT
       go_meet
       exact ⟨_, rfl, HEND.out⟩
     ·
       have HSP : Hid (spoiltS g a b c = { g with kinds := [] }) := Lib.hid (by unfold spoiltS; rw [HM.out]; rfl)
       have HEND : Hid (SpoEnd F w gb (spoiltS g a b c) (.slice none 0 0) w4) := Lib.hid (by
         rw [HSP.out]
         refine ⟨_, hx4, hz4, HBW4.out, { y with ak := none, ck := 0 }, rfl, fun W' hal => ?_⟩
         have hlow := low_of HBW4.out HGB.out hal
         have hg := HG0.out W' hlow
         exact ⟨hg.board, .inl rfl, hg.clauses⟩)
       go_wp2_with fail
       go_meet
       exact ⟨_, rfl, HEND.out⟩
   case rest =>
     obtain ⟨kv, hkv, CT, hT, hZ, hB, z, hCT, hGI⟩ := hcut
     subst hkv
     have hsz : CT.size = 9 := by
       have := congrArg Array.size hCT
       rw [Array.size_setIfInBounds] at this
       exact this
     have hkv : kv = .slice z.ak (spoiltS g a b c).kinds.length z.ck := by
       have := congrArg (·[3]?) hCT
       simp only [Array.getElem?_setIfInBounds, hsz] at this
       simpa [GameD.cells] using this
     subst hkv
     obtain ⟨v3, hv3⟩ : ∃ v3, CT[3]? = some v3 := ⟨CT[3], Array.getElem?_eq_getElem (by omega)⟩
     have k3 := bx_cell hT 3 hv3
     have f3 := bx_frozen hT 3
     have lgb := bx_lt hT
     have hal := alters_cell wc gb 3 (.slice z.ak (spoiltS g a b c).kinds.length z.ck)
     have hT2 : (wc.setCell ⟨gb, 3, none⟩ (.slice z.ak (spoiltS g a b c).kinds.length z.ck)).heap[gb]? = some (.cells ((spoiltS g a b c).cells z) 38 (0, 0)) := by rw [bx_set_ hT 3 (.slice z.ak (spoiltS g a b c).kinds.length z.ck), hCT]
     have hZ2 : (wc.setCell ⟨gb, 3, none⟩ (.slice z.ak (spoiltS g a b c).kinds.length z.ck)).heap[gb + 2]? = some (.cells zeroC 38 (0, 0)) := (hal.block (gb + 2) (bx_lt hZ) (fun e => by have e : gb + 2 = gb := e; omega)).trans hZ
     have HIS : Hid ((Tryz.prog.info? 38).map (·.size) = some ((spoiltS g a b c).cells z).size) := Lib.hid (by rw [cells_size]; exact info_gameC)
     have HALL := Lib.hid (cells_one (spoiltS g a b c) z)
     have hal2 := setRow_alters (wc.setCell ⟨gb, 3, none⟩ (.slice z.ak (spoiltS g a b c).kinds.length z.ck)) (gb + 2) ((spoiltS g a b c).cells z)
     have halT : Alters (fun k => k = gb ∨ k = gb + 2) wc ((wc.setCell ⟨gb, 3, none⟩ (.slice z.ak (spoiltS g a b c).kinds.length z.ck)).setRow (gb + 2) ((spoiltS g a b c).cells z)) := (hal.mono (fun _ _ h => .inl h)).trans (hal2.mono (fun _ _ h => .inr h))
     have HRES : Hid (∃ z', Ending.returned (.agg ((spoiltS g a b c).cells z)) = .returned (.agg ((spoiltS g a b c).cells z')) ∧ (∀ V, Alters F ((wc.setCell ⟨gb, 3, none⟩ (.slice z.ak (spoiltS g a b c).kinds.length z.ck)).setRow (gb + 2) ((spoiltS g a b c).cells z)) V → GameIn V.heap.size V z' (spoiltS g a b c)) ∧ Below w.heap.size w ((wc.setCell ⟨gb, 3, none⟩ (.slice z.ak (spoiltS g a b c).kinds.length z.ck)).setRow (gb + 2) ((spoiltS g a b c).cells z))) := Lib.hid ⟨z, rfl, fun V hV => hGI V ((halT.mono (fun _ _ h => by rcases h with h | h; exact .inl h; exact .inr (.inl h))).trans (hV.mono (fun _ _ h => .inr (.inr h)))), low_of0 hB HGB.out halT⟩
     have HQX := Lib.hid (setRow_heap (wc.setCell ⟨gb, 3, none⟩ (.slice z.ak (spoiltS g a b c).kinds.length z.ck)) (gb + 2) _ ((spoiltS g a b c).cells z) _ _ hZ2)
     have HT2 := Lib.hid hT2
     have HZ2 := Lib.hid hZ2
     clear hal hal2 halT hT hZ hGI hCT hv3 hsz hB hT2 hZ2
     go_wp2_with (first | (refine wpList_load_row rfl 38 (.tmp 2) rfl gb rfl 38 ((spoiltS g a b c).cells z) (0, 0) _ HT2.out Tryz.underlying38 rfl HIS.out ?_) | (refine wpList_store_row rfl 38 (.tmp 4) (.tmp 143) rfl (gb + 2) ((spoiltS g a b c).cells z) rfl rfl 38 zeroC HZ2.out HIS.out (by rw [cells_size]; rfl) HALL.out ?_))
     refine bodyPost_ret_by (v := .agg ((spoiltS g a b c).cells z)) (results_cell_row rfl _ _ (gb + 2) 38 _ (0, 0) _ rfl HQX.out Tryz.underlying38 rfl info_gameC) rfl ?_
     exact HRES.out
end Go.Proofs.YtbmcngoeinginaaGreatDoor
