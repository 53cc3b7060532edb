/-
 The games of the reference, as games.
-/
import Derived.Test.YtbmcngoeinginaaGreatDoorKMadeG
import Derived.Test.YtbmcngoeinginaaGreatDoorCRea
namespace Go.Proofs.YtbmcngoeinginaaGreatDoor
open Go Go.RowKit
def kD (k : KindS) : KindD := ⟨k.name, k.progs, k.keep⟩
def cD (c : Int × Int × Int × Int) : ClauseD := ⟨c.1, c.2.1, c.2.2.1, c.2.2.2⟩
def gD (g : GamS) : GameD := ⟨g.board, g.kinds.map kD, g.rights, g.must, g.clauses.map cD, g.blocked, g.endless⟩
theorem gflatK_eq : ∀ (ks : List KindS) (vs : List Value), gflatK ks vs = flatK (ks.map kD) vs
 | [], _ => by simp [gflatK, flatK]
 | _ :: _, [] => by simp [gflatK, flatK]
 | k :: ks, v :: vs => by simp [gflatK, flatK, gflatK_eq ks vs, kD]
theorem gflatC_eq : ∀ cs : List (Int × Int × Int × Int), gflatC cs = flatC (cs.map cD)
 | [] => rfl
 | c :: cs => by simp [gflatC, flatC, gflatC_eq cs, cD]
theorem OwnPg.progs {h : Nat} {W : World} {v : Value} {ps : List (List (Int × Int))} (hp : OwnPg h W v ps) : ProgsOwn h W v ps := by
 obtain ⟨vs, h1, h2⟩ := hp
 refine ⟨vs, h1, fun j hj => ?_⟩
 have hl : j < vs.length := by have := h1.1; omega
 refine ⟨vs[j], List.getElem?_eq_getElem hl, ?_⟩
 have := h2 j vs[j] (List.getElem?_eq_getElem hl)
 rwa [List.getElem?_eq_getElem hj, Option.getD_some] at this
theorem OwnK.in_ {h : Nat} {W : World} {v : Value} {ks : List KindS} (hk : OwnK h W v ks) : ∃ a cap, v = .slice a (ks.map kD).length cap ∧ KindsIn W.heap.size W a (ks.map kD) := by
 obtain ⟨pvs, hl, ho, hp⟩ := hk
 rw [gflatK_eq] at ho
 have hlm : (ks.map kD).length = ks.length := List.length_map ..
 rcases own_form ho with ⟨rfl, e⟩ | ⟨g, cap, rfl, _, hlt, hc⟩
 · refine ⟨none, 0, by rw [hlm, e], .inl ?_⟩
   rw [List.length_eq_zero_iff.1 e]; rfl
 · refine ⟨_, cap, by rw [hlm], .inr ⟨g, 0, rfl, hlt, fun i hi => ?_⟩⟩
   obtain ⟨h1, h2, h3⟩ := flatK_at (ks.map kD) pvs i hi (by rw [hlm, hl])
   have hi2 : i < ks.length := by omega
   have hiv : i < pvs.length := by omega
   have hq := (hp i pvs[i] ks[i] (List.getElem?_eq_getElem hiv) (List.getElem?_eq_getElem hi2)).progs;obtain ⟨a, c, e, hq⟩ := hq.in_
   have hpe : ((ks.map kD)[i]'hi).progs = ks[i].progs := by rw [List.getElem_map]; rfl
   rw [Nat.zero_add, hc _ (by omega), hc _ (by omega), hc _ (by omega)]
   exact ⟨h1, ⟨a, c, by rw [h2, List.getElem?_eq_getElem hiv, e, hpe], by rw [hpe]; exact hq⟩, h3⟩
theorem OwnG.game {h : Nat} {W : World} {on ot kv cv : Value} {g : GamS} (hg : OwnG h W on ot kv cv g) : ∃ x, g.cells on ot kv cv = (gD g).cells x ∧ GameIn W.heap.size W x (gD g) := by
 obtain ⟨an, cn, at_, ct, rfl, rfl, h1⟩ := hg.board.held
 obtain ⟨ak, ck, rfl, h3⟩ := hg.kinds.in_
 have hC := hg.clauses
 unfold OwnC at hC
 rw [gflatC_eq, ← List.length_map (f := cD)] at hC
 obtain ⟨ac, cc, rfl, h4⟩ := clauses_in hC
 exact ⟨⟨an, cn, at_, ct, ak, ck, ac, cc⟩, rfl, ⟨h1, h3, h4⟩⟩
def madeD (x : GRaw) : GameD := gD (madeG x)
theorem made_any (x : GRaw) (a0 a1 a2 : Option Addr) (c0 c1 c2 N : Nat) (w : World) (hN : N ≤ w.heap.size) (hI : GRawIn N w a0 a1 a2 x) :
   Calls Tryz.prog 11 #[.agg (x.cells a0 a1 a2 c0 c1 c2)] w fun e w' => ∃ y, e = .returned (.agg ((madeD x).cells y)) ∧ GameIn w'.heap.size w' y (madeD x) ∧ Below w.heap.size w w' := by
 refine (madeG_any x a0 a1 a2 c0 c1 c2 N w hN hI).mono ?_
 rintro e w' ⟨on, ot, kv, cv, rfl, hO, hb⟩
 obtain ⟨y, e, hG⟩ := hO.game
 exact ⟨y, by rw [e]; rfl, hG, hb⟩
theorem made_len (x : GRaw) : (madeD x).kinds.length = kindN x := by unfold madeD gD madeG; simp
theorem kindN_two (x : GRaw) : kindN x = 1 ∨ kindN x = 2 := by unfold kindN; split <;> omega
theorem made_kind (x : GRaw) (i : Nat) (hi : i < (madeD x).kinds.length) : (madeD x).kinds[i]'hi = kD (kindS x i) := by
 have : (madeD x).kinds = ((List.range (kindN x)).map (kindS x)).map kD := rfl
 simp only [this, List.getElem_map, List.getElem_range]
theorem made_find (x : GRaw) (i : Nat) (hi : i < (madeD x).kinds.length) : findD (madeD x).kinds ((madeD x).kinds[i]'hi).name = (i : Int) := by
 refine idxD_at hi (by simp) (fun j hj => ?_)
 have hn := made_len x
 have h2 := kindN_two x
 obtain ⟨rfl, rfl⟩ : i = 1 ∧ j = 0 := by omega
 rw [made_kind, made_kind]
 simp [kD, kindS]
end Go.Proofs.YtbmcngoeinginaaGreatDoor
