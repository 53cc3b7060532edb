/-
 Of the reference: Same; of the laws: man, small.
 Of the laws: small, the game of the examples.
 Of the laws: sanity.
-/
import Derived.Test.YtbmcngoeinginaaGreatDoorTk
import Derived.Test.YtbmcngoeinginaaGreatDoorCRea
import Derived.Test.YtbmcngoeinginaaGreatDoorKRef
import Derived.Deep.DeepCutAuto
import Derived.Deep.CutBlock
namespace Go.Proofs.YtbmcngoeinginaaGreatDoor
open Go Go.RowKit Go.Lib
attribute [local irreducible] Go.wpQuiet
theorem hpn {W : World} (o : Obj) {b : Nat} (hb : b = W.heap.size) : (W.alloc o).heap[b]? = some o := by subst hb; exact World.alloc_heap_new W o
theorem hpo {W : World} {o o' : Obj} {b : Nat} (h : W.heap[b]? = some o') : (W.alloc o).heap[b]? = some o' := (Below.heap_alloc _ _ _ (bx_lt h)).trans h
theorem info_man : (Tryz.prog.info? 49).map (·.size) = some 2 := by kernel_rfl
theorem lman_any (c : Int) (w : World) : Calls Tryz.prog 20 #[.int .i64 c] w fun e w' => e = .returned (.agg #[.int .i64 (manS c).1, .int .i64 (manS c).2]) ∧ Below w.heap.size w w' := by
 have hbA : Below w.heap.size w (w.alloc (.cells #[.int .i64 0, .int .i64 0] 49)) := below_alloc (Below.refl _ w) _
 have hZ : (w.alloc (.cells #[.int .i64 0, .int .i64 0] 49)).heap[w.heap.size]? = some (.cells #[.int .i64 0, .int .i64 0] 49 (0, 0)) := World.alloc_heap_new _ _
 have HM := Lib.hid (fun W => man_any c W)
 generalize (manS c).1 = a1 at *
 generalize (manS c).2 = a2 at *
 go_enter Tryz.func20, Tryz.ntmps20
 go_upto_region 1 with (fail)
 generalize w.alloc (.cells #[.int .i64 0, .int .i64 0] 49) = w1 at *
 go_wp2_with fail
 refine (HM.out w1).mono ?_
 rintro e w2 ⟨rfl, e0⟩
 subst w2
 have hlq := bx_lt hZ
 go_wp2_with (refine wpList_store_row rfl 49 (.tmp 2) (.tmp 12) rfl w.heap.size #[.int .i64 a1, .int .i64 a2] rfl rfl 49 _ hZ info_man rfl (by simp [Value.oneCell']) ?_)
 have hQX : (w1.setRow w.heap.size #[.int .i64 a1, .int .i64 a2]).heap[w.heap.size]? = some (.cells #[.int .i64 a1, .int .i64 a2] 49 (0, 0)) := setRow_heap w1 w.heap.size _ _ _ _ hZ
 refine bodyPost_ret_by (v := .agg #[.int .i64 a1, .int .i64 a2]) (results_cell_row rfl _ _ w.heap.size 49 _ (0, 0) _ rfl hQX Tryz.underlying49 rfl info_man) rfl ?_
 exact ⟨rfl, hbA.trans ((setRow_alters w1 w.heap.size _).below hbA.size (fun b hb => Nat.le_of_eq (by exact hb.symm)))⟩
structure SC2 (w : World) (q r : Nat) (t : TypeId) (l m : Array Value) (W : World) : Prop where
 b : Below w.heap.size w W
 h1 : W.heap[q]? = some (.cells l t (0, 0))
 h2 : W.heap[r]? = some (.cells m t (0, 0))
theorem SC2.up {w W W' : World} {q r : Nat} {t : TypeId} {l m : Array Value} (h : SC2 w q r t l m W) (hb : Below W.heap.size W W') : SC2 w q r t l m W' :=
 ⟨below_step h.b hb, (hb.block _ (bx_lt h.h1)).trans h.h1, (hb.block _ (bx_lt h.h2)).trans h.h2⟩
set_option maxRecDepth 100000 in
set_option maxHeartbeats 2000000 in
theorem rsame3_any (g h : GameD) (x y : GPl) (N : Nat) (w : World) (hm : Mod g) (hm2 : Mod h) (hN : N ≤ w.heap.size) (hG : GameIn N w x g) (hH : GameIn N w y h) :
   Calls Tryz.prog 30 #[.agg (g.cells x), .agg (h.cells y)] w fun e w' => e = .returned (.bool (printG g == printG h)) ∧ Below w.heap.size w w' := by
 have hb := below_alloc (below_alloc (Below.refl _ w) (.cells (g.cells x) 38)) (.cells (h.cells y) 38)
 have hq : ((w.alloc (.cells (g.cells x) 38)).alloc (.cells (h.cells y) 38)).heap[w.heap.size]? = some (.cells (g.cells x) 38 (0, 0)) := hpo (hpn _ rfl)
 have hr : ((w.alloc (.cells (g.cells x) 38)).alloc (.cells (h.cells y) 38)).heap[w.heap.size + 1]? = some (.cells (h.cells y) 38 (0, 0)) := hpn _ (by rw [World.size_alloc])
 have HP1 := Lib.hid (fun W (hW : Below w.heap.size w W) => rprint3_any g x N W hm (Nat.le_trans hN hW.size) (hG.up hN hW))
 have HP2 := Lib.hid (fun W (hW : Below w.heap.size w W) => rprint3_any h y N W hm2 (Nat.le_trans hN hW.size) (hH.up hN hW))
 clear hm hm2 hG hH
 generalize printG g = pg at *
 generalize printG h = ph at *
 unfold GameD.cells at *
 go_enter Tryz.func30, Tryz.ntmps30
 go_upto_region 1 with (fail)
 generalize (w.alloc (.cells #[.int .i64 g.b.cells, .slice x.an g.b.next.length x.cn, .slice x.at_ g.b.turn.length x.ct, .slice x.ak g.kinds.length x.ck, .int .i64 g.rights, .bool g.must, .slice x.ac g.clauses.length x.cc, .int .i64 g.blocked, .int .i64 g.endless] 38)).alloc (.cells #[.int .i64 h.b.cells, .slice y.an h.b.next.length y.cn, .slice y.at_ h.b.turn.length y.ct, .slice y.ak h.kinds.length y.ck, .int .i64 h.rights, .bool h.must, .slice y.ac h.clauses.length y.cc, .int .i64 h.blocked, .int .i64 h.endless] 38) = w1 at *
 have hC : SC2 w w.heap.size (w.heap.size + 1) 38 _ _ w1 := ⟨hb, hq, hr⟩
 have hC2 := hC.up (Below.refl _ _).drew
 clear hC hb hq hr
 refine wp_region_quiet (C := SC2 w w.heap.size (w.heap.size + 1) 38 _ _) (by kernel_rfl) (by kernel_rfl) hC2 ?_
 clear hC2
 dsimp only
 refine wpQuiet_val (v := .agg #[.int .i64 g.b.cells, .slice x.an g.b.next.length x.cn, .slice x.at_ g.b.turn.length x.ct, .slice x.ak g.kinds.length x.ck, .int .i64 g.rights, .bool g.must, .slice x.ac g.clauses.length x.cc, .int .i64 g.blocked, .int .i64 g.endless]) (by rfl) (fun W hW => ?_) ?_
 · have q0 := bx_cell hW.h1 0 rfl
   have q1 := bx_cell hW.h1 1 rfl;have q2 := bx_cell hW.h1 2 rfl;have q3 := bx_cell hW.h1 3 rfl;have q4 := bx_cell hW.h1 4 rfl;have q5 := bx_cell hW.h1 5 rfl;have q6 := bx_cell hW.h1 6 rfl;have q7 := bx_cell hW.h1 7 rfl;have q8 := bx_cell hW.h1 8 rfl;go_simp
 (try simp only [pS])
 refine wpQuiet_val (v := .string ⟨pg.toArray⟩) (by rfl) (fun W hW => ?_) ?_
 · go_simp
   exact (HP1.out W hW.b).mono fun e w' ⟨he, hb⟩ => ⟨he, hW.up hb⟩
 (try simp only [pS])
 refine wpQuiet_val (v := .agg #[.int .i64 h.b.cells, .slice y.an h.b.next.length y.cn, .slice y.at_ h.b.turn.length y.ct, .slice y.ak h.kinds.length y.ck, .int .i64 h.rights, .bool h.must, .slice y.ac h.clauses.length y.cc, .int .i64 h.blocked, .int .i64 h.endless]) (by rfl) (fun W hW => ?_) ?_
 · have q0 := bx_cell hW.h2 0 rfl
   have q1 := bx_cell hW.h2 1 rfl;have q2 := bx_cell hW.h2 2 rfl;have q3 := bx_cell hW.h2 3 rfl;have q4 := bx_cell hW.h2 4 rfl;have q5 := bx_cell hW.h2 5 rfl;have q6 := bx_cell hW.h2 6 rfl;have q7 := bx_cell hW.h2 7 rfl;have q8 := bx_cell hW.h2 8 rfl;go_simp
 (try simp only [pS])
 refine wpQuiet_val (v := .string ⟨ph.toArray⟩) (by rfl) (fun W hW => ?_) ?_
 · go_simp
   exact (HP2.out W hW.b).mono fun e w' ⟨he, hb⟩ => ⟨he, hW.up hb⟩
 (try simp only [pS])
 iterate 2
   refine wpQuiet_val (v := ?_) (by rfl) ?_ ?_;rotate_left
   · ((intro W hW; (try cases hW); go_simp); try with_reducible rfl)
   (try simp only [pS])
 refine wpQuiet_nil (fun w9 hW => ?_)
 have HB9 := Lib.hid hW.b
 clear hW
 go_wp2
 go_ret
 exact ⟨by simp, HB9.out⟩
end Go.Proofs.YtbmcngoeinginaaGreatDoor
namespace Go.Proofs.YtbmcngoeinginaaGreatDoor
open Go Go.RowKit Go.Lib
structure SmAt (b : Nat) (W : World) : Prop where
 h1 : W.heap[b + 1]? = some (.cells #[.int .i64 1, .int .i64 (-1)] 3 (0, 0))
 h2 : W.heap[b + 2]? = some (.cells #[.slice (some ⟨b + 1, 0, none⟩) 2 2] 32 (0, 0))
 h3 : W.heap[b + 3]? = some (.cells #[.int .i64 0] 3 (0, 0))
 h4 : W.heap[b + 4]? = some (.cells #[.int .i64 1, .int .i64 0, .int .i64 3, .int .i64 0] 91 (0, 0))
 h5 : W.heap[b + 5]? = some (.cells #[.slice (some ⟨b + 4, 0, none⟩) 2 2] 68 (0, 0))
 h6 : W.heap[b + 6]? = some (.cells #[.string ⟨#[97]⟩, .slice (some ⟨b + 5, 0, none⟩) 1 1, .bool false] 63 (0, 0))
theorem SmAt.up {b : Nat} {W W' : World} {S : Nat → Prop} (h : SmAt b W) (ha : Alters S W W') (hS : ∀ k, S k → k ≤ b) : SmAt b W' :=
 have H : ∀ {k : Nat} {o : Obj}, b < k → W.heap[k]? = some o → W'.heap[k]? = some o := fun {k o} hk ho => (ha.block k (bx_lt ho) (fun hs => by have := hS k hs; omega)).trans ho
 ⟨H (by omega) h.h1, H (by omega) h.h2, H (by omega) h.h3, H (by omega) h.h4, H (by omega) h.h5, H (by omega) h.h6⟩
def smX (b : Nat) : GPl := ⟨some ⟨b + 2, 0, none⟩, 1, some ⟨b + 3, 0, none⟩, 1, some ⟨b + 6, 0, none⟩, 1, none, 0⟩
theorem ints_at {n : Nat} {W : World} (l : List Int) {b : Nat} (hn : b < n) (h : W.heap[b]? = some (.cells ((l.map (Value.int .i64)).toArray) 3 (0, 0))) : Ints n W (some ⟨b, 0, none⟩) l :=
 .inr ⟨b, 0, rfl, hn, fun j hj => bx_cell h (0 + j) (by rw [Nat.zero_add]; simp [hj])⟩
theorem SmAt.game {b : Nat} {W : World} (h : SmAt b W) : GameIn W.heap.size W (smX b) smallG := by
 have l6 := bx_lt h.h6
 refine ⟨⟨.inr ⟨b + 2, 0, rfl, by omega, fun j hj => ?_⟩, ints_at [0] (by omega) h.h3⟩, .inr ⟨b + 6, 0, rfl, l6, fun i hi => ?_⟩, .inl rfl⟩
 · have hj0 : j = 0 := by
     have : smallG.b.next.length = 1 := rfl
     omega
   subst hj0;exact ⟨some ⟨b + 1, 0, none⟩, 2, bx_cell h.h2 0 rfl, ints_at [1, -1] (by omega) h.h1⟩
 · have hi0 : i = 0 := by
     have : smallG.kinds.length = 1 := rfl
     omega
   subst hi0;refine ⟨bx_cell h.h6 0 rfl, ⟨some ⟨b + 5, 0, none⟩, 1, bx_cell h.h6 1 rfl, .inr ⟨b + 5, 0, rfl, by omega, fun j hj => ?_⟩⟩, bx_cell h.h6 2 rfl⟩
   have hj0 : j = 0 := by
     have : (smallG.kinds[0]'hi).progs.length = 1 := rfl
     omega
   subst hj0;refine ⟨some ⟨b + 4, 0, none⟩, 2, bx_cell h.h5 0 rfl, .inr ⟨b + 4, 0, rfl, by omega, fun k hk => ?_⟩⟩
   have hk2 : k = 0 ∨ k = 1 := by
     have : ((smallG.kinds[0]'hi).progs[0]'hj).length = 2 := rfl
     omega
   rcases hk2 with rfl | rfl
   · exact ⟨bx_cell h.h4 0 rfl, bx_cell h.h4 1 rfl⟩
   · exact ⟨bx_cell h.h4 2 rfl, bx_cell h.h4 3 rfl⟩
set_option maxRecDepth 100000 in
set_option maxHeartbeats 2000000 in
theorem small_any (w : World) : Calls Tryz.prog 29 #[] w fun e w' => ∃ x, e = .returned (.agg (smallG.cells x)) ∧ GameIn w'.heap.size w' x smallG ∧ Below w.heap.size w w' := by
 have hz : (((((((w.alloc (.cells zeroC 38)).alloc (.cells #[.int .i64 1, .int .i64 (-1)] 3)).alloc (.cells #[.slice (some ⟨w.heap.size + 1, 0, none⟩) 2 2] 32)).alloc (.cells #[.int .i64 0] 3)).alloc (.cells #[.int .i64 1, .int .i64 0, .int .i64 3, .int .i64 0] 91)).alloc (.cells #[.slice (some ⟨w.heap.size + 1 + 1 + 1 + 1, 0, none⟩) 2 2] 68)).alloc (.cells #[.string ⟨#[97]⟩, .slice (some ⟨w.heap.size + 1 + 1 + 1 + 1 + 1, 0, none⟩) 1 1, .bool false] 63)).heap[w.heap.size]? = some (.cells zeroC 38 (0, 0)) := hpo (hpo (hpo (hpo (hpo (hpo (hpn _ rfl))))))
 have hs : SmAt w.heap.size (((((((w.alloc (.cells zeroC 38)).alloc (.cells #[.int .i64 1, .int .i64 (-1)] 3)).alloc (.cells #[.slice (some ⟨w.heap.size + 1, 0, none⟩) 2 2] 32)).alloc (.cells #[.int .i64 0] 3)).alloc (.cells #[.int .i64 1, .int .i64 0, .int .i64 3, .int .i64 0] 91)).alloc (.cells #[.slice (some ⟨w.heap.size + 1 + 1 + 1 + 1, 0, none⟩) 2 2] 68)).alloc (.cells #[.string ⟨#[97]⟩, .slice (some ⟨w.heap.size + 1 + 1 + 1 + 1 + 1, 0, none⟩) 1 1, .bool false] 63)) :=
   ⟨hpo (hpo (hpo (hpo (hpo (hpn _ (by simp)))))), hpo (hpo (hpo (hpo (hpn _ (by simp))))), hpo (hpo (hpo (hpn _ (by simp)))), hpo (hpo (hpn _ (by simp))), hpo (hpn _ (by simp)), hpn _ (by simp)⟩
 have hb : Below w.heap.size w (((((((w.alloc (.cells zeroC 38)).alloc (.cells #[.int .i64 1, .int .i64 (-1)] 3)).alloc (.cells #[.slice (some ⟨w.heap.size + 1, 0, none⟩) 2 2] 32)).alloc (.cells #[.int .i64 0] 3)).alloc (.cells #[.int .i64 1, .int .i64 0, .int .i64 3, .int .i64 0] 91)).alloc (.cells #[.slice (some ⟨w.heap.size + 1 + 1 + 1 + 1, 0, none⟩) 2 2] 68)).alloc (.cells #[.string ⟨#[97]⟩, .slice (some ⟨w.heap.size + 1 + 1 + 1 + 1 + 1, 0, none⟩) 1 1, .bool false] 63)) := below_alloc (below_alloc (below_alloc (below_alloc (below_alloc (below_alloc (below_alloc (Below.refl _ _) _) _) _) _) _) _) _
 go_enter Tryz.func29, Tryz.ntmps29
 go_upto_region 1 with (fail)
 go_wp2_with (refine wpList_store_row rfl 38 (.tmp 0) (.tmp 11) rfl w.heap.size (smallG.cells (smX w.heap.size)) rfl rfl 38 zeroC hz info_gameC rfl (cells_one _ _) ?_)
 have e0 : (((((((w.alloc (.cells zeroC 38)).alloc (.cells #[.int .i64 1, .int .i64 (-1)] 3)).alloc (.cells #[.slice (some ⟨w.heap.size + 1, 0, none⟩) 2 2] 32)).alloc (.cells #[.int .i64 0] 3)).alloc (.cells #[.int .i64 1, .int .i64 0, .int .i64 3, .int .i64 0] 91)).alloc (.cells #[.slice (some ⟨w.heap.size + 1 + 1 + 1 + 1, 0, none⟩) 2 2] 68)).alloc (.cells #[.string ⟨#[97]⟩, .slice (some ⟨w.heap.size + 1 + 1 + 1 + 1 + 1, 0, none⟩) 1 1, .bool false] 63)) = (((((((w.alloc (.cells zeroC 38)).alloc (.cells #[.int .i64 1, .int .i64 (-1)] 3)).alloc (.cells #[.slice (some ⟨w.heap.size + 1, 0, none⟩) 2 2] 32)).alloc (.cells #[.int .i64 0] 3)).alloc (.cells #[.int .i64 1, .int .i64 0, .int .i64 3, .int .i64 0] 91)).alloc (.cells #[.slice (some ⟨w.heap.size + 1 + 1 + 1 + 1, 0, none⟩) 2 2] 68)).alloc (.cells #[.string ⟨#[97]⟩, .slice (some ⟨w.heap.size + 1 + 1 + 1 + 1 + 1, 0, none⟩) 1 1, .bool false] 63)) := rfl
 unfold zeroC at hz hs hb
 generalize hW : (((((((w.alloc (.cells #[.int .i64 0, .slice none 0 0, .slice none 0 0, .slice none 0 0, .int .i64 0, .bool false, .slice none 0 0, .int .i64 0, .int .i64 0] 38)).alloc (.cells #[.int .i64 1, .int .i64 (-1)] 3)).alloc (.cells #[.slice (some ⟨w.heap.size + 1, 0, none⟩) 2 2] 32)).alloc (.cells #[.int .i64 0] 3)).alloc (.cells #[.int .i64 1, .int .i64 0, .int .i64 3, .int .i64 0] 91)).alloc (.cells #[.slice (some ⟨w.heap.size + 1 + 1 + 1 + 1, 0, none⟩) 2 2] 68)).alloc (.cells #[.string ⟨#[97]⟩, .slice (some ⟨w.heap.size + 1 + 1 + 1 + 1 + 1, 0, none⟩) 1 1, .bool false] 63)) = W at *
 clear hW e0
 have ha := setRow_alters W w.heap.size (smallG.cells (smX w.heap.size))
 have hQX : (W.setRow w.heap.size (smallG.cells (smX w.heap.size))).heap[w.heap.size]? = some (.cells (smallG.cells (smX w.heap.size)) 38 (0, 0)) := setRow_heap W w.heap.size _ _ _ _ hz
 have HG := Lib.hid (hs.up ha (fun k hk => Nat.le_of_eq hk)).game
 have HB : Hid (Below w.heap.size w (W.setRow w.heap.size (smallG.cells (smX w.heap.size)))) := Lib.hid (hb.trans (ha.below hb.size (fun b hb => Nat.le_of_eq (by exact hb.symm))))
 refine bodyPost_ret_by (v := .agg (smallG.cells (smX w.heap.size))) (results_cell_row rfl _ _ w.heap.size 38 _ (0, 0) _ rfl hQX Tryz.underlying38 rfl info_gameC) rfl ?_
 exact ⟨_, rfl, HG.out, HB.out⟩
end Go.Proofs.YtbmcngoeinginaaGreatDoor
namespace Go.Proofs.YtbmcngoeinginaaGreatDoor
open Go Go.RowKit Go.Lib
attribute [local irreducible] Go.wpQuiet
set_option maxRecDepth 100000 in
set_option maxHeartbeats 3000000 in
theorem sanity_any (w : World) (hL : LibIn w) (hR : ResIn w) : Calls Tryz.prog 10 #[] w fun e w' => e = .returned (.bool true) ∧ Below w.heap.size w w' := by
 have HL := Lib.hid hL
 have HR := Lib.hid hR
 clear hL hR
 go_enter Tryz.func10, Tryz.ntmps10
 go_wp2_with fail
 refine (small_any w).mono ?_
 rintro e w1 ⟨x, rfl, hG1, hb1⟩
 have e0 : smallG.cells x = #[.int .i64 2, .slice x.an 1 x.cn, .slice x.at_ 1 x.ct, .slice x.ak 1 x.ck, .int .i64 0, .bool false, .slice x.ac 0 x.cc, .int .i64 3, .int .i64 2] := rfl
 rw [e0]
 clear e0
 have hbA := below_alloc (Below.refl _ w1) (.cells #[.int .i64 2, .slice x.an 1 x.cn, .slice x.at_ 1 x.ct, .slice x.ak 1 x.ck, .int .i64 0, .bool false, .slice x.ac 0 x.cc, .int .i64 3, .int .i64 2] 38)
 have hX2 : (w1.alloc (.cells #[.int .i64 2, .slice x.an 1 x.cn, .slice x.at_ 1 x.ct, .slice x.ak 1 x.ck, .int .i64 0, .bool false, .slice x.ac 0 x.cc, .int .i64 3, .int .i64 2] 38)).heap[w1.heap.size]? = some (.cells #[.int .i64 2, .slice x.an 1 x.cn, .slice x.at_ 1 x.ct, .slice x.ak 1 x.ck, .int .i64 0, .bool false, .slice x.ac 0 x.cc, .int .i64 3, .int .i64 2] 38 (0, 0)) := hpn _ rfl
 go_upto_region 3 with (fail)
 obtain ⟨q, hq⟩ : ∃ q, w1.heap.size = q := ⟨_, rfl⟩
 have HQ : Hid (w1.heap.size ≤ q) := Lib.hid (by omega)
 rw [hq] at hX2
 (try simp only [hq])
 clear hq
 have HG2 := Lib.hid (hG1.up (Nat.le_refl _) hbA)
 have HN2 := Lib.hid hbA.size
 have HB2 := Lib.hid (below_step hb1 hbA)
 generalize w1.alloc (.cells #[.int .i64 2, .slice x.an 1 x.cn, .slice x.at_ 1 x.ct, .slice x.ak 1 x.ck, .int .i64 0, .bool false, .slice x.ac 0 x.cc, .int .i64 3, .int .i64 2] 38) = w2 at *
 have HX2 := Lib.hid hX2
 clear hX2 hG1 hb1 hbA
 obtain ⟨tx, htx⟩ : ∃ tx : ByteArray, (⟨(([98, 111, 97, 114, 100, 32, 50, 32, 49, 10, 100, 105, 114, 32, 49, 32, 45, 49, 10, 116, 117, 114, 110, 32, 48, 10, 107, 105, 110, 100, 32, 97, 10, 112, 114, 111, 103, 32, 103, 111, 48] : List UInt8).append [32, 101, 109, 112, 116, 121, 10, 114, 105, 103, 104, 116, 115, 32, 48, 10, 98, 108, 111, 99, 107, 101, 100, 32, 108, 111, 115, 115, 10, 101, 110, 100, 108, 101, 115, 115, 32, 100, 114, 97, 119, 10]).toArray⟩ : ByteArray) = tx := ⟨_, rfl⟩
 have HTX : Hid ((⟨textS.toArray⟩ : ByteArray) = tx) := Lib.hid (by rw [← htx]; rfl)
 have hts : tx.size = 83 := by rw [← htx]; rfl
 rw [htx]
 clear htx
 have HP1 : Hid (∀ W, LibIn W → ResIn W → Calls Tryz.prog 13 #[.string tx] W fun e w' => ∃ x : GPl, e = .returned (.tuple #[.agg #[.int .i64 2, .slice x.an 1 x.cn, .slice x.at_ 1 x.ct, .slice x.ak 1 x.ck, .int .i64 0, .bool false, .slice x.ac 0 x.cc, .int .i64 3, .int .i64 2], .int .i64 0]) ∧ GameIn w'.heap.size w' x smallG ∧ Below W.heap.size W w') := Lib.hid (fun W h1 h2 => by
   rw [← HTX.out];have h := gparse_any textS (by decide) W h1 h2;unfold GParsed at h;rw [parse_small.1, parse_small.2] at h;exact h)
 have HP2 : Hid (∀ W, LibIn W → ResIn W → Calls Tryz.prog 13 #[.string ⟨#[]⟩] W fun e w' => ∃ x : GPl, e = .returned (.tuple #[.agg #[.int .i64 0, .slice x.an 0 x.cn, .slice x.at_ 0 x.ct, .slice x.ak 0 x.ck, .int .i64 0, .bool false, .slice x.ac 0 x.cc, .int .i64 0, .int .i64 0], .int .i64 3]) ∧ Below W.heap.size W w') := Lib.hid (fun W h1 h2 => by
   have h := gparse_any [] (by decide) W h1 h2;unfold GParsed at h;rw [parse_empty.1, parse_empty.2] at h;exact h.mono (fun e w' ⟨x, h1, _, h3⟩ => ⟨x, h1, h3⟩))
 have HP3 : Hid (∀ W, LibIn W → ResIn W → Calls Tryz.prog 13 #[.string (tx ++ ⟨#[10]⟩)] W fun e w' => ∃ x : GPl, e = .returned (.tuple #[.agg #[.int .i64 0, .slice x.an 0 x.cn, .slice x.at_ 0 x.ct, .slice x.ak 0 x.ck, .int .i64 0, .bool false, .slice x.ac 0 x.cc, .int .i64 0, .int .i64 0], .int .i64 3]) ∧ Below W.heap.size W w') := Lib.hid (fun W h1 h2 => by
   have h := gparse_any (textS ++ [10]) (by decide) W h1 h2;unfold GParsed at h;rw [parse_text2.1, parse_text2.2, ← str_app textS [10], HTX.out] at h;exact h.mono (fun e w' ⟨x, h1, _, h3⟩ => ⟨x, h1, h3⟩))
 have HTS : Hid (tx.size = 83) := Lib.hid hts
 clear hts
 go_wp2_with fail
 refine (HP1.out w2 (HL.out.up HB2.out) (HR.out.up HB2.out)).mono ?_
 rintro e w3 ⟨y, rfl, hG3, hb3⟩
 have HB3 := Lib.hid (below_step HB2.out hb3)
 have HX3 := Lib.hid ((hb3.block _ (bx_lt HX2.out)).trans HX2.out)
 have HG3 := Lib.hid (HG2.out.up HN2.out hb3)
 have HN3 : Hid (w1.heap.size ≤ w3.heap.size) := Lib.hid (Nat.le_trans HN2.out hb3.size)
 have hbY := below_alloc (Below.refl _ w3) (.cells #[.int .i64 2, .slice y.an 1 y.cn, .slice y.at_ 1 y.ct, .slice y.ak 1 y.ck, .int .i64 0, .bool false, .slice y.ac 0 y.cc, .int .i64 3, .int .i64 2] 38)
 have hY4 : (w3.alloc (.cells #[.int .i64 2, .slice y.an 1 y.cn, .slice y.at_ 1 y.ct, .slice y.ak 1 y.ck, .int .i64 0, .bool false, .slice y.ac 0 y.cc, .int .i64 3, .int .i64 2] 38)).heap[w3.heap.size]? = some (.cells #[.int .i64 2, .slice y.an 1 y.cn, .slice y.at_ 1 y.ct, .slice y.ak 1 y.ck, .int .i64 0, .bool false, .slice y.ac 0 y.cc, .int .i64 3, .int .i64 2] 38 (0, 0)) := hpn _ rfl
 clear hb3 HB2 HX2 HG2 HN2 HP1
 go_upto_region 4 with (fail)
 obtain ⟨r, hr⟩ : ∃ r, w3.heap.size = r := ⟨_, rfl⟩
 have HRQ : Hid (w3.heap.size ≤ r) := Lib.hid (by omega)
 rw [hr] at hY4
 (try simp only [hr])
 clear hr
 have HX4 := Lib.hid ((hbY.block _ (bx_lt HX3.out)).trans HX3.out)
 have HG4 := Lib.hid (HG3.out.up HN3.out hbY)
 have HN4 : Hid (w1.heap.size ≤ (w3.alloc (.cells #[.int .i64 2, .slice y.an 1 y.cn, .slice y.at_ 1 y.ct, .slice y.ak 1 y.ck, .int .i64 0, .bool false, .slice y.ac 0 y.cc, .int .i64 3, .int .i64 2] 38)).heap.size) := Lib.hid (Nat.le_trans HN3.out hbY.size)
 have HB4 := Lib.hid (below_step HB3.out hbY)
 have HH4 := Lib.hid (hG3.up (Nat.le_refl _) hbY)
 have HM4 := Lib.hid hbY.size
 have HY4 := Lib.hid hY4
 generalize w3.alloc (.cells #[.int .i64 2, .slice y.an 1 y.cn, .slice y.at_ 1 y.ct, .slice y.ak 1 y.ck, .int .i64 0, .bool false, .slice y.ac 0 y.cc, .int .i64 3, .int .i64 2] 38) = w4 at *
 clear hbY hY4 hG3 HX3 HG3 HN3 HB3
 go_wp2_with fail
 refine (HP2.out w4 (HL.out.up HB4.out) (HR.out.up HB4.out)).mono ?_
 rintro e w5 ⟨z, rfl, hb5⟩
 have hb5' := below_step hb5 (below_alloc (Below.refl _ w5) (.cells #[.int .i64 0, .slice z.an 0 z.cn, .slice z.at_ 0 z.ct, .slice z.ak 0 z.ck, .int .i64 0, .bool false, .slice z.ac 0 z.cc, .int .i64 0, .int .i64 0] 38))
 clear HP2
 go_upto_region 5 with (fail)
 generalize w5.alloc (.cells #[.int .i64 0, .slice z.an 0 z.cn, .slice z.at_ 0 z.ct, .slice z.ak 0 z.ck, .int .i64 0, .bool false, .slice z.ac 0 z.cc, .int .i64 0, .int .i64 0] 38) = w6 at *
 have HB6 := Lib.hid (below_step HB4.out hb5')
 have HBF6 := Lib.hid hb5'
 have hs1 : ¬ 9223372036854775807 < tx.size + 1 := by rw [HTS.out]; omega
 clear hb5 hb5'
 go_wp2_with fail
 refine (HP3.out w6 (HL.out.up HB6.out) (HR.out.up HB6.out)).mono ?_
 rintro e w7 ⟨z2, rfl, hb7⟩
 have hb7' := below_step hb7 (below_alloc (Below.refl _ w7) (.cells #[.int .i64 0, .slice z2.an 0 z2.cn, .slice z2.at_ 0 z2.ct, .slice z2.ak 0 z2.ck, .int .i64 0, .bool false, .slice z2.ac 0 z2.cc, .int .i64 0, .int .i64 0] 38))
 clear HP3 hs1
 go_upto_region 6 with (fail)
 generalize w7.alloc (.cells #[.int .i64 0, .slice z2.an 0 z2.cn, .slice z2.at_ 0 z2.ct, .slice z2.ak 0 z2.ck, .int .i64 0, .bool false, .slice z2.ac 0 z2.cc, .int .i64 0, .int .i64 0] 38) = w8 at *
 have HB8 := Lib.hid (below_step HB6.out hb7')
 have HBF8 := Lib.hid (below_step HBF6.out hb7')
 clear hb7 hb7' HB6 HBF6
 have HX8 := Lib.hid ((HBF8.out.block _ (bx_lt HX4.out)).trans HX4.out)
 have HY8 := Lib.hid ((HBF8.out.block _ (bx_lt HY4.out)).trans HY4.out)
 have HG8 := Lib.hid (HG4.out.up HN4.out HBF8.out)
 have HH8 := Lib.hid (HH4.out.up HM4.out HBF8.out)
 have HN8 : Hid (w1.heap.size ≤ w8.heap.size ∧ w3.heap.size ≤ w8.heap.size) := Lib.hid ⟨Nat.le_trans HN4.out HBF8.out.size, Nat.le_trans HM4.out HBF8.out.size⟩
 clear HX4 HY4 HG4 HN4 HB4 HH4 HM4 HBF8
 go_cut [9, 10, 28, 29] (fun s9 s10 _s28 _s29 wx => ∃ b9 b10 : Nat, s9 = .pointer (some ⟨b9, 0, none⟩) ∧ s10 = .pointer (some ⟨b10, 0, none⟩) ∧ b9 ≠ b10 ∧ w8.heap.size ≤ b9 ∧ w8.heap.size ≤ b10 ∧ wx.heap[b9]? = some (.cells #[.int .i64 2, .slice x.an 1 x.cn, .slice x.at_ 1 x.ct, .slice x.ak 1 x.ck, .int .i64 0, .bool false, .slice x.ac 0 x.cc, .int .i64 3, .int .i64 2] 38 (0, 0)) ∧ wx.heap[b10]? = some (.cells #[.int .i64 2, .slice x.an 1 x.cn, .slice x.at_ 1 x.ct, .slice x.ak 1 x.ck, .int .i64 0, .bool false, .slice x.ac 0 x.cc, .int .i64 3, .int .i64 2] 38 (0, 0)) ∧ Below w8.heap.size w8 wx)
 case first =>
   have hx8 := HX8.out;have q0 := bx_cell hx8 0 rfl;have q1 := bx_cell hx8 1 rfl;have q2 := bx_cell hx8 2 rfl;have q3 := bx_cell hx8 3 rfl;have q4 := bx_cell hx8 4 rfl;have q5 := bx_cell hx8 5 rfl;have q6 := bx_cell hx8 6 rfl;have q7 := bx_cell hx8 7 rfl;have q8 := bx_cell hx8 8 rfl;have hlq := bx_lt hx8;clear hx8 HTX HTS HG8 HH8 HN8 HY8 HB8 HX8 HRQ HQ HL HR
   go_region_held3 (fun W => W.cell? ⟨q, 0, none⟩ = some (.int .i64 2) ∧ W.cell? ⟨q, 1, none⟩ = some (.slice x.an 1 x.cn) ∧ W.cell? ⟨q, 2, none⟩ = some (.slice x.at_ 1 x.ct) ∧ W.cell? ⟨q, 3, none⟩ = some (.slice x.ak 1 x.ck) ∧ W.cell? ⟨q, 4, none⟩ = some (.int .i64 0) ∧ W.cell? ⟨q, 5, none⟩ = some (.bool false) ∧ W.cell? ⟨q, 6, none⟩ = some (.slice x.ac 0 x.cc) ∧ W.cell? ⟨q, 7, none⟩ = some (.int .i64 3) ∧ W.cell? ⟨q, 8, none⟩ = some (.int .i64 2)) (first | assumption | exact cell_drew (by assumption) | exact cell_alloc_keep (by assumption) _ | go_keep) (fail)
   · go_wp2_with fail; go_meet
     exact ⟨w8.heap.size, w8.heap.size + 1, rfl, rfl, by omega, by omega, by omega, hpo (hpn _ rfl), hpn _ (by rw [World.size_alloc]), (below_alloc (below_alloc (Below.refl _ _) _) _).drew⟩
   · go_wp2_with fail; go_meet
     exact ⟨w8.heap.size + 1, w8.heap.size, rfl, rfl, by omega, by omega, by omega, hpn _ (by rw [World.size_alloc]), hpo (hpn _ rfl), (below_alloc (below_alloc (Below.refl _ _) _) _).drew⟩
 case rest =>
   obtain ⟨b9, b10, e9, e10, hne, hl9, hl10, h9, h10, hbc⟩ := hcut;subst e9;subst e10;have m9 := bx_lt h9;have m10 := bx_lt h10;have f9 := bx_frozen h9 6;have f10 := bx_frozen h10 6;have k9 := bx_cell h9 6 rfl;have k10 := bx_cell h10 6 rfl;go_upto_region 9 with (fail);clear f9 f10 k9 k10
   have hs1 : (wc.setCell ⟨b9, 6, none⟩ (.slice (some ⟨wc.heap.size, 0, none⟩) 1 1)).heap.size = wc.heap.size := by simp [World.setCell]
   have hs2 : ((wc.setCell ⟨b9, 6, none⟩ (.slice (some ⟨wc.heap.size, 0, none⟩) 1 1)).setCell ⟨b10, 6, none⟩ (.slice (some ⟨wc.heap.size + 1, 0, none⟩) 1 1)).heap.size = wc.heap.size := by simp [World.setCell]
   have hA1 := alters_cell wc b9 6 (.slice (some ⟨wc.heap.size, 0, none⟩) 1 1);have hA2 := alters_cell (wc.setCell ⟨b9, 6, none⟩ (.slice (some ⟨wc.heap.size, 0, none⟩) 1 1)) b10 6 (.slice (some ⟨wc.heap.size + 1, 0, none⟩) 1 1)
   have g9 : ((((wc.setCell ⟨b9, 6, none⟩ (.slice (some ⟨wc.heap.size, 0, none⟩) 1 1)).setCell ⟨b10, 6, none⟩ (.slice (some ⟨wc.heap.size + 1, 0, none⟩) 1 1)).alloc (.cells #[.int .i64 2, .int .i64 0, .int .i64 1, .int .i64 1] 70)).alloc (.cells #[.int .i64 2, .int .i64 0, .int .i64 2, .int .i64 1] 70)).heap[b9]? = some (.cells #[.int .i64 2, .slice x.an 1 x.cn, .slice x.at_ 1 x.ct, .slice x.ak 1 x.ck, .int .i64 0, .bool false, .slice (some ⟨wc.heap.size, 0, none⟩) 1 1, .int .i64 3, .int .i64 2] 38 (0, 0)) := by
     refine hpo (hpo ?_)
     refine (hA2.block b9 (by rw [hs1]; exact m9) (fun e => hne e)).trans ?_
     rw [bx_set_ h9 6]; rfl
   have g10 : ((((wc.setCell ⟨b9, 6, none⟩ (.slice (some ⟨wc.heap.size, 0, none⟩) 1 1)).setCell ⟨b10, 6, none⟩ (.slice (some ⟨wc.heap.size + 1, 0, none⟩) 1 1)).alloc (.cells #[.int .i64 2, .int .i64 0, .int .i64 1, .int .i64 1] 70)).alloc (.cells #[.int .i64 2, .int .i64 0, .int .i64 2, .int .i64 1] 70)).heap[b10]? = some (.cells #[.int .i64 2, .slice x.an 1 x.cn, .slice x.at_ 1 x.ct, .slice x.ak 1 x.ck, .int .i64 0, .bool false, .slice (some ⟨wc.heap.size + 1, 0, none⟩) 1 1, .int .i64 3, .int .i64 2] 38 (0, 0)) := by
     refine hpo (hpo ?_);have h10' := (hA1.block b10 m10 (fun e => hne e.symm)).trans h10
     rw [bx_set_ h10' 6]; rfl
   have c1 : ((((wc.setCell ⟨b9, 6, none⟩ (.slice (some ⟨wc.heap.size, 0, none⟩) 1 1)).setCell ⟨b10, 6, none⟩ (.slice (some ⟨wc.heap.size + 1, 0, none⟩) 1 1)).alloc (.cells #[.int .i64 2, .int .i64 0, .int .i64 1, .int .i64 1] 70)).alloc (.cells #[.int .i64 2, .int .i64 0, .int .i64 2, .int .i64 1] 70)).heap[wc.heap.size]? = some (.cells #[.int .i64 2, .int .i64 0, .int .i64 1, .int .i64 1] 70 (0, 0)) := hpo (hpn _ hs2.symm);have c2 : ((((wc.setCell ⟨b9, 6, none⟩ (.slice (some ⟨wc.heap.size, 0, none⟩) 1 1)).setCell ⟨b10, 6, none⟩ (.slice (some ⟨wc.heap.size + 1, 0, none⟩) 1 1)).alloc (.cells #[.int .i64 2, .int .i64 0, .int .i64 1, .int .i64 1] 70)).alloc (.cells #[.int .i64 2, .int .i64 0, .int .i64 2, .int .i64 1] 70)).heap[wc.heap.size + 1]? = some (.cells #[.int .i64 2, .int .i64 0, .int .i64 2, .int .i64 1] 70 (0, 0)) := hpn _ (by rw [World.size_alloc, hs2])
   have hbd : Below w8.heap.size w8 ((((wc.setCell ⟨b9, 6, none⟩ (.slice (some ⟨wc.heap.size, 0, none⟩) 1 1)).setCell ⟨b10, 6, none⟩ (.slice (some ⟨wc.heap.size + 1, 0, none⟩) 1 1)).alloc (.cells #[.int .i64 2, .int .i64 0, .int .i64 1, .int .i64 1] 70)).alloc (.cells #[.int .i64 2, .int .i64 0, .int .i64 2, .int .i64 1] 70)) := by
     refine hbc.trans (Below.trans ?_ ((below_alloc (below_alloc (Below.refl _ _) _) _).mono (by rw [hs2]; exact hbc.size)))
     exact (hA1.below hbc.size (fun k hk => by have hk : k = b9 := hk; omega)).trans (hA2.below (by rw [hs1]; exact hbc.size) (fun k hk => by have hk : k = b10 := hk; omega))
   obtain ⟨cc1, hcc1⟩ : ∃ cc1, wc.heap.size = cc1 := ⟨_, rfl⟩;rw [hcc1] at g9 g10 c1 c2 hbd;(try simp only [hcc1]);generalize hWD : ((((wc.setCell ⟨b9, 6, none⟩ (.slice (some ⟨cc1, 0, none⟩) 1 1)).setCell ⟨b10, 6, none⟩ (.slice (some ⟨cc1 + 1, 0, none⟩) 1 1)).alloc (.cells #[.int .i64 2, .int .i64 0, .int .i64 1, .int .i64 1] 70)).alloc (.cells #[.int .i64 2, .int .i64 0, .int .i64 2, .int .i64 1] 70)) = wD at *;clear hWD hcc1 hs1 hs2 hA1 hA2 h9 h10 m9 m10 hbc;have HXD := Lib.hid ((hbd.block _ (bx_lt HX8.out)).trans HX8.out);have HYD := Lib.hid ((hbd.block _ (bx_lt HY8.out)).trans HY8.out);have H9D := Lib.hid g9;have H10D := Lib.hid g10;have hgx := (HG8.out.up HN8.out.1 hbd).mono (Nat.le_trans HN8.out.1 hbd.size);have hgy := (HH8.out.up HN8.out.2 hbd).mono (Nat.le_trans HN8.out.2 hbd.size)
   have hg1 : GameIn wD.heap.size wD { x with ac := some ⟨cc1, 0, none⟩, cc := 1 } oneG := ⟨hgx.board, hgx.kinds, .inr ⟨cc1, 0, rfl, bx_lt c1, fun i hi => by
     obtain rfl : i = 0 := by
       have : oneG.clauses.length = 1 := rfl
       omega
     exact ⟨bx_cell c1 0 rfl, bx_cell c1 1 rfl, bx_cell c1 2 rfl, bx_cell c1 3 rfl⟩⟩⟩
   have hg2 : GameIn wD.heap.size wD { x with ac := some ⟨cc1 + 1, 0, none⟩, cc := 1 } twoG := ⟨hgx.board, hgx.kinds, .inr ⟨cc1 + 1, 0, rfl, bx_lt c2, fun i hi => by
     obtain rfl : i = 0 := by
       have : twoG.clauses.length = 1 := rfl
       omega
     exact ⟨bx_cell c2 0 rfl, bx_cell c2 1 rfl, bx_cell c2 2 rfl, bx_cell c2 3 rfl⟩⟩⟩
   have HLD := Lib.hid (HL.out.up (HB8.out.trans (hbd.mono HB8.out.size)));have HRD := Lib.hid (HR.out.up (HB8.out.trans (hbd.mono HB8.out.size)));have HBW := Lib.hid (HB8.out.trans (hbd.mono HB8.out.size));have HMD : Hid (Mod smallG) := Lib.hid ⟨by decide, by decide, by decide, by decide, by decide⟩
   have HFA : Hid (∀ W, Below wD.heap.size wD W → Calls Tryz.prog 16 #[.agg #[.int .i64 2, .slice x.an 1 x.cn, .slice x.at_ 1 x.ct, .slice x.ak 1 x.ck, .int .i64 0, .bool false, .slice x.ac 0 x.cc, .int .i64 3, .int .i64 2], .string ⟨#[97]⟩] W fun e w' => e = .returned (.int .i64 0) ∧ Below W.heap.size W w') := Lib.hid (fun W h => by
     have := gfind_any smallG x [97] wD.heap.size W (by decide) h.size (hgx.kinds.up (Nat.le_refl _) h);rw [small_finda] at this;exact this)
   have HFB : Hid (∀ W, Below wD.heap.size wD W → Calls Tryz.prog 16 #[.agg #[.int .i64 2, .slice x.an 1 x.cn, .slice x.at_ 1 x.ct, .slice x.ak 1 x.ck, .int .i64 0, .bool false, .slice x.ac 0 x.cc, .int .i64 3, .int .i64 2], .string ⟨#[98]⟩] W fun e w' => e = .returned (.int .i64 (-1)) ∧ Below W.heap.size W w') := Lib.hid (fun W h => by
     have := gfind_any smallG x [98] wD.heap.size W (by decide) h.size (hgx.kinds.up (Nat.le_refl _) h);rw [small_findb] at this;exact this)
   have HPR : Hid (∀ W, Below wD.heap.size wD W → Calls Tryz.prog 15 #[.agg #[.int .i64 2, .slice x.an 1 x.cn, .slice x.at_ 1 x.ct, .slice x.ak 1 x.ck, .int .i64 0, .bool false, .slice x.ac 0 x.cc, .int .i64 3, .int .i64 2]] W fun e w' => e = .returned (.string tx) ∧ Below W.heap.size W w') := Lib.hid (fun W h => by
     have := gprint_any smallG x wD.heap.size W h.size (hgx.up (Nat.le_refl _) h) (HLD.out.up h) (HRD.out.up h);rw [small_print, HTX.out] at this;exact this)
   have HSM : Hid (∀ W, Below wD.heap.size wD W → Calls Tryz.prog 30 #[.agg #[.int .i64 2, .slice y.an 1 y.cn, .slice y.at_ 1 y.ct, .slice y.ak 1 y.ck, .int .i64 0, .bool false, .slice y.ac 0 y.cc, .int .i64 3, .int .i64 2], .agg #[.int .i64 2, .slice x.an 1 x.cn, .slice x.at_ 1 x.ct, .slice x.ak 1 x.ck, .int .i64 0, .bool false, .slice x.ac 0 x.cc, .int .i64 3, .int .i64 2]] W fun e w' => e = .returned (.bool true) ∧ Below W.heap.size W w') := Lib.hid (fun W h => by
     have := rsame3_any smallG smallG y x wD.heap.size W HMD.out HMD.out h.size (hgy.up (Nat.le_refl _) h) (hgx.up (Nat.le_refl _) h);rw [beq_self_eq_true] at this;exact this)
   have HV0 : Hid (∀ W, Below wD.heap.size wD W → Calls Tryz.prog 24 #[.agg #[.int .i64 2, .slice x.an 1 x.cn, .slice x.at_ 1 x.ct, .slice x.ak 1 x.ck, .int .i64 0, .bool false, .slice x.ac 0 x.cc, .int .i64 3, .int .i64 2]] W fun e w' => e = .returned (.bool true) ∧ Below W.heap.size W w') := Lib.hid (fun W h => by
     have := gvalid_any smallG x wD.heap.size W h.size (hgx.up (Nat.le_refl _) h) (HLD.out.up h).signs;rw [small_valid] at this;exact this)
   have HV1 : Hid (∀ W, Below wD.heap.size wD W → Calls Tryz.prog 24 #[.agg #[.int .i64 2, .slice x.an 1 x.cn, .slice x.at_ 1 x.ct, .slice x.ak 1 x.ck, .int .i64 0, .bool false, .slice (some ⟨cc1, 0, none⟩) 1 1, .int .i64 3, .int .i64 2]] W fun e w' => e = .returned (.bool true) ∧ Below W.heap.size W w') := Lib.hid (fun W h => by
     have := gvalid_any oneG _ wD.heap.size W h.size (hg1.up (Nat.le_refl _) h) (HLD.out.up h).signs;rw [one_valid] at this;exact this)
   have HV2 : Hid (∀ W, Below wD.heap.size wD W → Calls Tryz.prog 24 #[.agg #[.int .i64 2, .slice x.an 1 x.cn, .slice x.at_ 1 x.ct, .slice x.ak 1 x.ck, .int .i64 0, .bool false, .slice (some ⟨cc1 + 1, 0, none⟩) 1 1, .int .i64 3, .int .i64 2]] W fun e w' => e = .returned (.bool false) ∧ Below W.heap.size W w') := Lib.hid (fun W h => by
     have := gvalid_any twoG _ wD.heap.size W h.size (hg2.up (Nat.le_refl _) h) (HLD.out.up h).signs;rw [two_valid] at this;exact this)
   have HV3 : Hid (∀ W, Below wD.heap.size wD W → Calls Tryz.prog 24 #[.agg #[.int .i64 0, .slice none 0 0, .slice none 0 0, .slice none 0 0, .int .i64 0, .bool false, .slice none 0 0, .int .i64 0, .int .i64 0]] W fun e w' => e = .returned (.bool false) ∧ Below W.heap.size W w') := Lib.hid (fun W h => by
     have := gvalid_any zeroG ⟨none, 0, none, 0, none, 0, none, 0⟩ wD.heap.size W h.size (zero_in _ _) (HLD.out.up h).signs;rw [zero_valid] at this;exact this)
   clear HTX HG8 HH8 HN8 HX8 HY8 HB8 hgx hgy hg1 hg2 c1 c2 g9 g10 hbd HLD HRD HMD HTS HRQ HQ HL HR hl9 hl10 hne;have HBD := Lib.hid (Below.refl wD.heap.size wD)
   go_wp2_with fail
   refine (code_any 1 1 _).mono ?_;rintro e wE21 ⟨rfl, e21⟩;subst e21;rw [show codeS 1 1 = 4 from by decide]
   go_wp2_with fail
   refine (lman_any 4 _).mono ?_;rintro e wE22 ⟨rfl, hb22⟩;replace HBD := Lib.hid (below_step HBD.out hb22);clear hb22;rw [show (manS 4).1 = 1 from by decide, show (manS 4).2 = 1 from by decide]
   go_wp2_with fail
   refine (lman_any 0 _).mono ?_;rintro e wE23 ⟨rfl, hb23⟩;replace HBD := Lib.hid (below_step HBD.out hb23);clear hb23;rw [show (manS 0).1 = -1 from by decide, show (manS 0).2 = -1 from by decide]
   go_wp2_with fail
   refine (code_any 6 0 _).mono ?_;rintro e wE24 ⟨rfl, e24⟩;subst e24;rw [show codeS 6 0 = 0 from by decide]
   go_wp2_with fail
   refine (code_any 0 2 _).mono ?_;rintro e wE25 ⟨rfl, e25⟩;subst e25;rw [show codeS 0 2 = 0 from by decide];have q0 := bx_cell ((HBD.out.block _ (bx_lt HXD.out)).trans HXD.out) 0 rfl;have q1 := bx_cell ((HBD.out.block _ (bx_lt HXD.out)).trans HXD.out) 1 rfl;have q2 := bx_cell ((HBD.out.block _ (bx_lt HXD.out)).trans HXD.out) 2 rfl;have q3 := bx_cell ((HBD.out.block _ (bx_lt HXD.out)).trans HXD.out) 3 rfl;have q4 := bx_cell ((HBD.out.block _ (bx_lt HXD.out)).trans HXD.out) 4 rfl;have q5 := bx_cell ((HBD.out.block _ (bx_lt HXD.out)).trans HXD.out) 5 rfl;have q6 := bx_cell ((HBD.out.block _ (bx_lt HXD.out)).trans HXD.out) 6 rfl;have q7 := bx_cell ((HBD.out.block _ (bx_lt HXD.out)).trans HXD.out) 7 rfl;have q8 := bx_cell ((HBD.out.block _ (bx_lt HXD.out)).trans HXD.out) 8 rfl
   go_wp2_with fail
   refine (HFA.out _ HBD.out).mono ?_;rintro e wE26 ⟨rfl, hb26⟩;clear q0 q1 q2 q3 q4 q5 q6 q7 q8;replace HBD := Lib.hid (below_step HBD.out hb26);clear hb26;have q0 := bx_cell ((HBD.out.block _ (bx_lt HXD.out)).trans HXD.out) 0 rfl;have q1 := bx_cell ((HBD.out.block _ (bx_lt HXD.out)).trans HXD.out) 1 rfl;have q2 := bx_cell ((HBD.out.block _ (bx_lt HXD.out)).trans HXD.out) 2 rfl;have q3 := bx_cell ((HBD.out.block _ (bx_lt HXD.out)).trans HXD.out) 3 rfl;have q4 := bx_cell ((HBD.out.block _ (bx_lt HXD.out)).trans HXD.out) 4 rfl;have q5 := bx_cell ((HBD.out.block _ (bx_lt HXD.out)).trans HXD.out) 5 rfl;have q6 := bx_cell ((HBD.out.block _ (bx_lt HXD.out)).trans HXD.out) 6 rfl;have q7 := bx_cell ((HBD.out.block _ (bx_lt HXD.out)).trans HXD.out) 7 rfl;have q8 := bx_cell ((HBD.out.block _ (bx_lt HXD.out)).trans HXD.out) 8 rfl
   go_wp2_with fail
   refine (HFB.out _ HBD.out).mono ?_;rintro e wE27 ⟨rfl, hb27⟩;clear q0 q1 q2 q3 q4 q5 q6 q7 q8;replace HBD := Lib.hid (below_step HBD.out hb27);clear hb27;have q0 := bx_cell ((HBD.out.block _ (bx_lt HXD.out)).trans HXD.out) 0 rfl;have q1 := bx_cell ((HBD.out.block _ (bx_lt HXD.out)).trans HXD.out) 1 rfl;have q2 := bx_cell ((HBD.out.block _ (bx_lt HXD.out)).trans HXD.out) 2 rfl;have q3 := bx_cell ((HBD.out.block _ (bx_lt HXD.out)).trans HXD.out) 3 rfl;have q4 := bx_cell ((HBD.out.block _ (bx_lt HXD.out)).trans HXD.out) 4 rfl;have q5 := bx_cell ((HBD.out.block _ (bx_lt HXD.out)).trans HXD.out) 5 rfl;have q6 := bx_cell ((HBD.out.block _ (bx_lt HXD.out)).trans HXD.out) 6 rfl;have q7 := bx_cell ((HBD.out.block _ (bx_lt HXD.out)).trans HXD.out) 7 rfl;have q8 := bx_cell ((HBD.out.block _ (bx_lt HXD.out)).trans HXD.out) 8 rfl
   go_wp2_with fail
   refine (HPR.out _ HBD.out).mono ?_;rintro e wE28 ⟨rfl, hb28⟩;clear q0 q1 q2 q3 q4 q5 q6 q7 q8;replace HBD := Lib.hid (below_step HBD.out hb28);clear hb28;have q0 := bx_cell ((HBD.out.block _ (bx_lt HXD.out)).trans HXD.out) 0 rfl;have q1 := bx_cell ((HBD.out.block _ (bx_lt HXD.out)).trans HXD.out) 1 rfl;have q2 := bx_cell ((HBD.out.block _ (bx_lt HXD.out)).trans HXD.out) 2 rfl;have q3 := bx_cell ((HBD.out.block _ (bx_lt HXD.out)).trans HXD.out) 3 rfl;have q4 := bx_cell ((HBD.out.block _ (bx_lt HXD.out)).trans HXD.out) 4 rfl;have q5 := bx_cell ((HBD.out.block _ (bx_lt HXD.out)).trans HXD.out) 5 rfl;have q6 := bx_cell ((HBD.out.block _ (bx_lt HXD.out)).trans HXD.out) 6 rfl;have q7 := bx_cell ((HBD.out.block _ (bx_lt HXD.out)).trans HXD.out) 7 rfl;have q8 := bx_cell ((HBD.out.block _ (bx_lt HXD.out)).trans HXD.out) 8 rfl
   have p0 := bx_cell ((HBD.out.block _ (bx_lt HYD.out)).trans HYD.out) 0 rfl;have p1 := bx_cell ((HBD.out.block _ (bx_lt HYD.out)).trans HYD.out) 1 rfl;have p2 := bx_cell ((HBD.out.block _ (bx_lt HYD.out)).trans HYD.out) 2 rfl;have p3 := bx_cell ((HBD.out.block _ (bx_lt HYD.out)).trans HYD.out) 3 rfl;have p4 := bx_cell ((HBD.out.block _ (bx_lt HYD.out)).trans HYD.out) 4 rfl;have p5 := bx_cell ((HBD.out.block _ (bx_lt HYD.out)).trans HYD.out) 5 rfl;have p6 := bx_cell ((HBD.out.block _ (bx_lt HYD.out)).trans HYD.out) 6 rfl;have p7 := bx_cell ((HBD.out.block _ (bx_lt HYD.out)).trans HYD.out) 7 rfl;have p8 := bx_cell ((HBD.out.block _ (bx_lt HYD.out)).trans HYD.out) 8 rfl
   go_wp2_with fail
   refine (HSM.out _ HBD.out).mono ?_;rintro e wE29 ⟨rfl, hb29⟩;clear q0 q1 q2 q3 q4 q5 q6 q7 q8;clear p0 p1 p2 p3 p4 p5 p6 p7 p8;replace HBD := Lib.hid (below_step HBD.out hb29);clear hb29;have p0 := bx_cell ((HBD.out.block _ (bx_lt HYD.out)).trans HYD.out) 0 rfl;have p1 := bx_cell ((HBD.out.block _ (bx_lt HYD.out)).trans HYD.out) 1 rfl;have p2 := bx_cell ((HBD.out.block _ (bx_lt HYD.out)).trans HYD.out) 2 rfl;have p3 := bx_cell ((HBD.out.block _ (bx_lt HYD.out)).trans HYD.out) 3 rfl;have p4 := bx_cell ((HBD.out.block _ (bx_lt HYD.out)).trans HYD.out) 4 rfl;have p5 := bx_cell ((HBD.out.block _ (bx_lt HYD.out)).trans HYD.out) 5 rfl;have p6 := bx_cell ((HBD.out.block _ (bx_lt HYD.out)).trans HYD.out) 6 rfl;have p7 := bx_cell ((HBD.out.block _ (bx_lt HYD.out)).trans HYD.out) 7 rfl;have p8 := bx_cell ((HBD.out.block _ (bx_lt HYD.out)).trans HYD.out) 8 rfl
   have q0 := bx_cell ((HBD.out.block _ (bx_lt HXD.out)).trans HXD.out) 0 rfl;have q1 := bx_cell ((HBD.out.block _ (bx_lt HXD.out)).trans HXD.out) 1 rfl;have q2 := bx_cell ((HBD.out.block _ (bx_lt HXD.out)).trans HXD.out) 2 rfl;have q3 := bx_cell ((HBD.out.block _ (bx_lt HXD.out)).trans HXD.out) 3 rfl;have q4 := bx_cell ((HBD.out.block _ (bx_lt HXD.out)).trans HXD.out) 4 rfl;have q5 := bx_cell ((HBD.out.block _ (bx_lt HXD.out)).trans HXD.out) 5 rfl;have q6 := bx_cell ((HBD.out.block _ (bx_lt HXD.out)).trans HXD.out) 6 rfl;have q7 := bx_cell ((HBD.out.block _ (bx_lt HXD.out)).trans HXD.out) 7 rfl;have q8 := bx_cell ((HBD.out.block _ (bx_lt HXD.out)).trans HXD.out) 8 rfl
   go_wp2_with fail
   refine (HV0.out _ HBD.out).mono ?_;rintro e wE30 ⟨rfl, hb30⟩;clear q0 q1 q2 q3 q4 q5 q6 q7 q8;replace HBD := Lib.hid (below_step HBD.out hb30);clear hb30;clear p0 p1 p2 p3 p4 p5 p6 p7 p8;have q0 := bx_cell ((HBD.out.block _ (bx_lt H9D.out)).trans H9D.out) 0 rfl;have q1 := bx_cell ((HBD.out.block _ (bx_lt H9D.out)).trans H9D.out) 1 rfl;have q2 := bx_cell ((HBD.out.block _ (bx_lt H9D.out)).trans H9D.out) 2 rfl;have q3 := bx_cell ((HBD.out.block _ (bx_lt H9D.out)).trans H9D.out) 3 rfl;have q4 := bx_cell ((HBD.out.block _ (bx_lt H9D.out)).trans H9D.out) 4 rfl;have q5 := bx_cell ((HBD.out.block _ (bx_lt H9D.out)).trans H9D.out) 5 rfl;have q6 := bx_cell ((HBD.out.block _ (bx_lt H9D.out)).trans H9D.out) 6 rfl;have q7 := bx_cell ((HBD.out.block _ (bx_lt H9D.out)).trans H9D.out) 7 rfl;have q8 := bx_cell ((HBD.out.block _ (bx_lt H9D.out)).trans H9D.out) 8 rfl
   go_wp2_with fail
   refine (HV1.out _ HBD.out).mono ?_;rintro e wE31 ⟨rfl, hb31⟩;clear q0 q1 q2 q3 q4 q5 q6 q7 q8;replace HBD := Lib.hid (below_step HBD.out hb31);clear hb31;have q0 := bx_cell ((HBD.out.block _ (bx_lt H10D.out)).trans H10D.out) 0 rfl;have q1 := bx_cell ((HBD.out.block _ (bx_lt H10D.out)).trans H10D.out) 1 rfl;have q2 := bx_cell ((HBD.out.block _ (bx_lt H10D.out)).trans H10D.out) 2 rfl;have q3 := bx_cell ((HBD.out.block _ (bx_lt H10D.out)).trans H10D.out) 3 rfl;have q4 := bx_cell ((HBD.out.block _ (bx_lt H10D.out)).trans H10D.out) 4 rfl;have q5 := bx_cell ((HBD.out.block _ (bx_lt H10D.out)).trans H10D.out) 5 rfl;have q6 := bx_cell ((HBD.out.block _ (bx_lt H10D.out)).trans H10D.out) 6 rfl;have q7 := bx_cell ((HBD.out.block _ (bx_lt H10D.out)).trans H10D.out) 7 rfl;have q8 := bx_cell ((HBD.out.block _ (bx_lt H10D.out)).trans H10D.out) 8 rfl
   go_wp2_with fail
   refine (HV2.out _ HBD.out).mono ?_;rintro e wE32 ⟨rfl, hb32⟩;clear q0 q1 q2 q3 q4 q5 q6 q7 q8;replace HBD := Lib.hid (below_step HBD.out hb32);clear hb32
   go_wp2_with fail
   refine (HV3.out _ HBD.out).mono ?_;rintro e wE33 ⟨rfl, hb33⟩;replace HBD := Lib.hid (below_step HBD.out hb33);clear hb33;go_wp2
   go_ret
   exact ⟨by first | rfl | simp, HBW.out.trans (HBD.out.mono HBW.out.size)⟩
end Go.Proofs.YtbmcngoeinginaaGreatDoor
