/-
  GameLines of the laws.
-/
import Derived.Test.YteknjmaenjfheaaGreatDoorCSam
import Derived.Test.YteknjmaenjfheaaGreatDoorKMadeV
import Derived.Test.YteknjmaenjfheaaGreatDoorCLinB
namespace Go.Proofs.YteknjmaenjfheaaGreatDoor
open Go Go.RowKit Go.Lib
attribute [local irreducible] Go.wpQuiet

def catTo (f : Nat → List UInt8) (q : Nat) : List UInt8 := ((List.range q).map f).flatten
theorem catTo_succ (f : Nat → List UInt8) (q : Nat) : catTo f (q + 1) = catTo f q ++ f q := by simp [catTo, List.range_succ]
theorem flatL_take (L : List (List UInt8)) (q : Nat) (h : q < L.length) : (flatL (L.take (q + 1))).length = (flatL (L.take q)).length + ((L[q]?.getD []).length + 1) := by
  rw [List.take_add_one, flatL_append, List.length_append, List.getElem?_eq_getElem h]
  simp [flatL]
/-- Texts put together out of lines, one or two of them with something more, are not long. -/
theorem cat_len (f : Nat → List UInt8) (L : List (List UInt8)) (i k c : Nat) (h : ∀ j, j < L.length → (f j).length ≤ (L[j]?.getD []).length + 1 + (if j = i then c else 0) + (if j = k then c else 0)) :
    ∀ q, q ≤ L.length → (catTo f q).length ≤ (flatL (L.take q)).length + (if i < q then c else 0) + (if k < q then c else 0)
  | 0, _ => by simp [catTo]
  | q + 1, hq => by
    have ih := cat_len f L i k c h q (by omega)
    have h1 := h q (by omega)
    have h2 := flatL_take L q (by omega)
    rw [catTo_succ, List.length_append]
    split at h1 <;> split at h1 <;> split at ih <;> split at ih <;> split <;> split <;> omega
theorem flatL_le (L : List (List UInt8)) (q : Nat) : (flatL (L.take q)).length ≤ (flatL L).length := by
  conv => rhs; rw [← List.take_append_drop q L]
  rw [flatL_append, List.length_append]
  omega
theorem mem_le {L : List (List UInt8)} {l : List UInt8} (h : l ∈ L) : l.length + 1 ≤ (flatL L).length := by
  obtain ⟨i, hi, rfl⟩ := List.mem_iff_getElem.1 h
  have h1 := flatL_take L i hi
  have h2 := flatL_le L (i + 1)
  rw [List.getElem?_eq_getElem hi, Option.getD_some] at h1
  omega
/-- What the four texts have of line j. -/
def lnA (L : List (List UInt8)) (j : Nat) : List UInt8 := if j < L.length - 1 then L[j]?.getD [] ++ [10] else []
def lnB (L : List (List UInt8)) (i j : Nat) : List UInt8 := L[j]?.getD [] ++ [10] ++ if j = i then L[j]?.getD [] ++ [10] else []
def lnC (L : List (List UInt8)) (i k j : Nat) : List UInt8 := (if j = i then L[k]?.getD [] else if j = k then L[i]?.getD [] else L[j]?.getD []) ++ [10]
def lnD (L : List (List UInt8)) (i j : Nat) : List UInt8 := (if j = i then L[j]?.getD [] ++ [32] else L[j]?.getD []) ++ [10]
structure Shorts (M : Nat) (L : List (List UInt8)) (i k q : Nat) : Prop where
  a : (catTo (lnA L) q).length ≤ M + M + M
  b : (catTo (lnB L i) q).length ≤ M + M + M
  c : (catTo (lnC L i k) q).length ≤ M + M + M
  d : (catTo (lnD L i) q).length ≤ M + M + M
theorem shorts {M : Nat} {L : List (List UInt8)} (hL : (flatL L).length ≤ M) (i k q : Nat) (hi : i < L.length) (hk : k < L.length) (hq : q ≤ L.length) : Shorts M L i k q := by
  have hm : ∀ j, j < L.length → (L[j]?.getD []).length + 1 ≤ M := fun j hj => by
    rw [List.getElem?_eq_getElem hj]
    exact Nat.le_trans (mem_le (List.getElem_mem hj)) hL
  have hmi := hm i hi
  have hmk := hm k hk
  have key : ∀ f : Nat → List UInt8, (∀ j, j < L.length → (f j).length ≤ (L[j]?.getD []).length + 1 + (if j = i then M else 0) + (if j = k then M else 0)) → (catTo f q).length ≤ M + M + M := fun f h => by
    have h1 := cat_len f L i k M h q hq
    have h2 := flatL_le L q
    split at h1 <;> split at h1 <;> omega
  refine ⟨key _ fun j hj => ?_, key _ fun j hj => ?_, key _ fun j hj => ?_, key _ fun j hj => ?_⟩
  · unfold lnA; split <;> simp only [List.length_append, List.length_cons, List.length_nil] <;> omega
  · have := hm j hj
    unfold lnB
    by_cases e : j = i
    · rw [if_pos e, if_pos e]; simp; omega
    · rw [if_neg e, if_neg e]; simp
  · unfold lnC
    by_cases e : j = i
    · rw [if_pos e, if_pos e]; simp; omega
    · rw [if_neg e, if_neg e]
      by_cases e2 : j = k
      · rw [if_pos e2, if_pos e2]; simp; omega
      · rw [if_neg e2, if_neg e2]; simp
  · unfold lnD
    by_cases e : j = i
    · rw [if_pos e, if_pos e]; simp; omega
    · rw [if_neg e, if_neg e]; simp
theorem catA (L : List (List UInt8)) (x : List UInt8) : catTo (lnA (L ++ [x])) (L ++ [x]).length = flatL L := by
  rw [List.length_append, List.length_singleton, catTo_succ]
  have e : lnA (L ++ [x]) L.length = [] := by unfold lnA; rw [if_neg (by simp)]
  rw [e, List.append_nil]
  unfold catTo flatL
  congr 1
  apply List.ext_getElem
  · simp
  · intro j h1 h2
    have hj : j < L.length := by simpa using h2
    simp only [List.getElem_map, List.getElem_range]
    unfold lnA
    rw [if_pos (by simp; exact hj), List.getElem?_append_left hj, List.getElem?_eq_getElem hj, Option.getD_some]
theorem catD (L : List (List UInt8)) (i : Nat) (hi : i < L.length) : catTo (lnD L i) L.length = flatL (L.set i (L[i] ++ [32])) := by
  unfold catTo flatL
  congr 1
  apply List.ext_getElem
  · simp
  · intro j h1 h2
    have hj : j < L.length := by simpa using h2
    simp only [List.getElem_map, List.getElem_range]
    unfold lnD
    rw [List.getElem_set, List.getElem?_eq_getElem hj, Option.getD_some]
    by_cases e : j = i
    · subst e; simp
    · rw [if_neg e, if_neg (fun h => e h.symm)]


structure TexC (w : World) (ob gb : Nat) (T : TypeId) (cs : Array Value) (j : Nat) (t : ByteArray) (W : World) : Prop where
  b : Below w.heap.size w W
  g : W.heap[gb]? = some (.cells cs T (0, 0))
  o : W.cell? ⟨ob, j, none⟩ = some (.string t)
theorem TexC.up {w W W' : World} {ob gb : Nat} {T : TypeId} {cs : Array Value} {j : Nat} {t : ByteArray} (h : TexC w ob gb T cs j t W) (hb : Below W.heap.size W W') : TexC w ob gb T cs j t W' :=
  ⟨below_step h.b hb, (hb.block _ (bx_lt h.g)).trans h.g, cell_keep hb h.o⟩
structure IkC (w : World) (hb : Nat) (u v : Value) (W : World) : Prop where
  b : Below w.heap.size w W
  a0 : W.cell? ⟨hb, 0, none⟩ = some u
  a1 : W.cell? ⟨hb, 1, none⟩ = some v
def boxL (L : List (List UInt8)) (i k q : Nat) : Array Value := #[.string ⟨(catTo (lnA L) q).toArray⟩, .string ⟨(catTo (lnB L i) q).toArray⟩, .string ⟨(catTo (lnC L i k) q).toArray⟩, .string ⟨(catTo (lnD L i) q).toArray⟩]
set_option maxRecDepth 100000 in
set_option maxHeartbeats 3000000 in
theorem lns_any (x : GRaw) (a0 a1 a2 : Option Addr) (c0 c1 c2 N : Nat) (a b c : Int) (w : World) (ha : 0 ≤ a ∧ a ≤ 255) (hbb : 0 ≤ b ∧ b ≤ 255) (hN : N ≤ w.heap.size) (hI : GRawIn N w a0 a1 a2 x) (hL : LibIn w) (hR : ResIn w) :
    Calls Tryz.prog 9 #[.agg (x.cells a0 a1 a2 c0 c1 c2), .agg #[.int .u8 a, .int .u8 b, .int .u8 c]] w fun e w' => e = .returned (.bool true) ∧ Below w.heap.size w w' := by
  have hbA : Below w.heap.size w ((w.alloc (.cells (x.cells a0 a1 a2 c0 c1 c2) 27)).alloc (.cells #[.int .u8 a, .int .u8 b, .int .u8 c] 72)) := below_alloc (below_alloc (Below.refl _ w) _) _
  have hx1 : ((w.alloc (.cells (x.cells a0 a1 a2 c0 c1 c2) 27)).alloc (.cells #[.int .u8 a, .int .u8 b, .int .u8 c] 72)).heap[w.heap.size]? = some (.cells (x.cells a0 a1 a2 c0 c1 c2) 27 (0, 0)) := hpo (hpn _ rfl)
  have hx2 : ((w.alloc (.cells (x.cells a0 a1 a2 c0 c1 c2) 27)).alloc (.cells #[.int .u8 a, .int .u8 b, .int .u8 c] 72)).heap[w.heap.size + 1]? = some (.cells #[.int .u8 a, .int .u8 b, .int .u8 c] 72 (0, 0)) := hpn _ (by simp)
  have HS := Lib.hid (fun W (h : Below w.heap.size w W) => sanity_any W (hL.up h) (hR.up h))
  have HM := Lib.hid (fun W (h : Below w.heap.size w W) => made_any x a0 a1 a2 c0 c1 c2 N W (Nat.le_trans hN h.size) (hI.up hN h))
  have HMV := Lib.hid (made_valid hI)
  have HL := Lib.hid hL
  have HR := Lib.hid hR
  clear hL hR hI hN
  unfold GRaw.cells at *
  go_enter Tryz.func9, Tryz.ntmps9
  go_upto_region 1 with (fail)
  generalize (w.alloc (.cells #[.int .u8 x.w, .int .u8 x.h, .int .u8 x.cut, .slice a0 x.k0.length c0, .slice a1 x.k1.length c1, .slice a2 x.c.length c2, .int .u8 (x.f 0), .int .u8 (x.f 1), .int .u8 (x.f 2), .int .u8 (x.f 3), .int .u8 (x.f 4), .int .u8 (x.f 5)] 27)).alloc (.cells #[.int .u8 a, .int .u8 b, .int .u8 c] 72) = w1 at *
  go_wp2_with fail
  refine (HS.out w1 hbA).mono ?_
  rintro e w2 ⟨rfl, hb2⟩
  have hx1 := (hb2.block _ (bx_lt hx1)).trans hx1
  have HA2 := Lib.hid ((hb2.block _ (bx_lt hx2)).trans hx2)
  have HB2 := Lib.hid (below_step hbA hb2)
  clear hx2 hbA hb2 HS
  have r0 := bx_cell hx1 0 rfl
  have r1 := bx_cell hx1 1 rfl
  have r2 := bx_cell hx1 2 rfl
  have r3 := bx_cell hx1 3 rfl
  have r4 := bx_cell hx1 4 rfl
  have r5 := bx_cell hx1 5 rfl
  have r6 := bx_cell hx1 6 rfl
  have r7 := bx_cell hx1 7 rfl
  have r8 := bx_cell hx1 8 rfl
  have r9 := bx_cell hx1 9 rfl
  have r10 := bx_cell hx1 10 rfl
  have r11 := bx_cell hx1 11 rfl
  clear hx1
  go_wp2_with fail
  refine (HM.out w2 HB2.out).mono ?_
  rintro e w3 ⟨y, rfl, hG3, hb3⟩
  clear r0 r1 r2 r3 r4 r5 r6 r7 r8 r9 r10 r11 HM
  generalize madeD x = g at *
  obtain ⟨ls, hwr, hli, hl4, hl80⟩ := written_lines HMV.out
  have hlen := written_le (validG_bounds HMV.out)
  have HPG : Hid (printG g = flatL (ls ++ [lastB g, lastE g])) := Lib.hid (by unfold printG; rw [if_pos HMV.out, hwr])
  rw [hwr] at hlen
  have HNL := Lib.hid (no_last hli)
  have HCA := Lib.hid (catA (ls ++ [lastB g]) (lastE g))
  obtain ⟨L, hLe⟩ : ∃ L, ls ++ [lastB g, lastE g] = L := ⟨_, rfl⟩
  have hLn0 : L.length = ls.length + 2 := by rw [← hLe]; simp
  obtain ⟨n, hLn⟩ : ∃ n, L.length = n := ⟨_, rfl⟩
  have hn6 : 6 ≤ n := by omega
  have hn82 : n ≤ 82 := by omega
  have HLE := Lib.hid (And.intro hLe hLn0)
  rw [hLe] at HPG hli hlen
  clear hLe hLn0 hl4 hl80
  have HA3 := Lib.hid ((hb3.block _ (bx_lt HA2.out)).trans HA2.out)
  have HB3 := Lib.hid (below_step HB2.out hb3)
  have HPR : Hid (Calls Tryz.prog 15 #[.agg (g.cells y)] w3 fun e w' => e = .returned (.string ⟨(flatL L).toArray⟩) ∧ Below w3.heap.size w3 w') := Lib.hid (by
    have := gprint_any g y w3.heap.size w3 (Nat.le_refl _) hG3 (HL.out.up HB3.out) (HR.out.up HB3.out)
    rw [HPG.out] at this
    exact this)
  clear hb3 hG3 HA2 HB2
  unfold GameD.cells at HPR ⊢
  go_wp2_with fail
  refine HPR.out.mono ?_
  rintro e w4 ⟨rfl, hb4⟩
  clear HPR HPG
  have HA4 := Lib.hid ((hb4.block _ (bx_lt HA3.out)).trans HA3.out)
  have HB4 := Lib.hid (below_step HB3.out hb4)
  have hcs : cutS (flatL L) 10 = L ++ [[]] := cutS_lines (fun l hl => (hli l hl).1)
  have HCU : Hid (Calls Tryz.prog 28 #[.string ⟨(flatL L).toArray⟩, .int .u8 10] w4 fun e w' => ∃ lb cb, e = .returned (.slice (some ⟨lb, 0, none⟩) (L.length + 1) cb) ∧ (∀ j (hj : j < L.length), w'.cell? ⟨lb, j, none⟩ = some (.string ⟨(L[j]'hj).toArray⟩)) ∧ w4.heap.size ≤ lb ∧ lb < w'.heap.size ∧ L.length + 1 ≤ cb ∧ Below w4.heap.size w4 w') := Lib.hid (by
    have := rcut_any (flatL L) 10 w4 (by omega) (by rw [hcs]; simp; omega)
    refine this.mono ?_
    rintro e w' ⟨v, rfl, ho, hb⟩
    rw [hcs] at ho
    obtain ⟨lb, cb, rfl, h1, h2, h3, h4⟩ := ho.cells (by simp)
    refine ⟨lb, cb, by simp, fun j hj => ?_, h1, h2, by simpa using h3, hb⟩
    have := h4 j (by simp; omega)
    rw [Nat.zero_add] at this
    rw [this]
    simp [hj])
  clear hb4 HB3 HA3
  go_wp2_with fail
  refine HCU.out.mono ?_
  rintro e w5 ⟨lb, cb, rfl, hcl, hlb1, hlb2, hcb, hb5⟩
  clear HCU
  have HA5 := Lib.hid ((hb5.block _ (bx_lt HA4.out)).trans HA4.out)
  have HB5 := Lib.hid (below_step HB4.out hb5)
  clear hb5 HA4 hcs
  have z0 := bx_cell HA5.out 0 rfl
  have z1 := bx_cell HA5.out 1 rfl
  obtain ⟨ai, rfl⟩ := Int.eq_ofNat_of_zero_le ha.1
  obtain ⟨bi, rfl⟩ := Int.eq_ofNat_of_zero_le hbb.1
  have HLI := Lib.hid hli
  have HLEN := Lib.hid hlen
  clear hli hlen hwr
  have y1 : IntKind.i64.wrap (ai : Int) = (ai : Int) := IntWalk.i64_in _ (by omega)
  have y2 : IntKind.i64.wrap (bi : Int) = (bi : Int) := IntWalk.i64_in _ (by omega)
  have y3 : (ai : Int).tmod (n : Int) = ((ai % n : Nat) : Int) := rfl
  have y4 : (bi : Int).tmod (n : Int) = ((bi % n : Nat) : Int) := rfl
  have hi := Nat.mod_lt ai (show 0 < n by omega)
  have hk := Nat.mod_lt bi (show 0 < n by omega)
  clear ha hbb
  generalize ai % n = i at *
  generalize bi % n = k at *
  have y5 : IntKind.i64.wrap (i : Int) = (i : Int) := IntWalk.i64_in _ (by omega)
  have y6 : IntKind.i64.wrap (k : Int) = (k : Int) := IntWalk.i64_in _ (by omega)
  have y7 : ¬ ((n : Int) = 0) := by omega
  have y8 : ¬ (n = 0) := by omega
  have t1 : decide ((n : Int) < 6) = false := by rw [decide_eq_false_iff_not]; omega
  have hC2 : IkC w5 (w.heap.size + 1) (.int .u8 (ai : Int)) (.int .u8 (bi : Int)) w5.drew := ⟨(Below.refl _ _).drew, z0, z1⟩
  clear z0 z1
  go_upto_region 7 with (fail)
  refine wp_region_quiet (C := IkC w5 (w.heap.size + 1) (.int .u8 (ai : Int)) (.int .u8 (bi : Int))) (by kernel_rfl) (by kernel_rfl) hC2 ?_
  clear hC2
  dsimp only
  iterate 12
    refine wpQuiet_val (v := ?_) (by rfl) ?_ ?_
    rotate_left
    · ((intro W hW; (try cases hW); go_simp); try with_reducible rfl)
    (try simp only [Act.put, List.setIfInBounds_toArray, List.set_cons_zero, List.set_cons_succ])
  refine wpQuiet_nil (fun w6 hW => ?_)
  have hb6 := hW.b
  clear hW
  have HB6 := Lib.hid (below_step HB5.out hb6)
  have HC6 : Hid (∀ j (hj : j < L.length), w6.cell? ⟨lb, j, none⟩ = some (.string ⟨(L[j]'hj).toArray⟩)) := Lib.hid (fun j hj => cell_keep hb6 (hcl j hj))
  have hlb6 := Nat.lt_of_lt_of_le hlb2 hb6.size
  clear hb6 hcl hlb1 hlb2 HB5 HB4 HA5 y1 y2 y3 y4 y5 y6 y7 y8 t1
  have hbE : Below w6.heap.size w6 (w6.alloc (.cells #[.string ⟨#[]⟩, .string ⟨#[]⟩, .string ⟨#[]⟩, .string ⟨#[]⟩] 41)) := below_alloc (Below.refl _ _) _
  have hox : (w6.alloc (.cells #[.string ⟨#[]⟩, .string ⟨#[]⟩, .string ⟨#[]⟩, .string ⟨#[]⟩] 41)).heap[w6.heap.size]? = some (.cells #[.string ⟨#[]⟩, .string ⟨#[]⟩, .string ⟨#[]⟩, .string ⟨#[]⟩] 41 (0, 0)) := hpn _ rfl
  go_upto_region 9 with (fail)
  obtain ⟨ob, hob⟩ : ∃ ob, w6.heap.size = ob := ⟨_, rfl⟩
  have HOB := Lib.hid hob
  rw [hob] at hox hlb6
  (try simp only [hob])
  have HC7 : Hid (∀ W, Alters (fun b => b = ob) (w6.alloc (.cells #[.string ⟨#[]⟩, .string ⟨#[]⟩, .string ⟨#[]⟩, .string ⟨#[]⟩] 41)) W → ∀ j (hj : j < L.length), W.cell? ⟨lb, j, none⟩ = some (.string ⟨(L[j]'hj).toArray⟩)) := Lib.hid (fun W hal j hj => by
    have h1 := cell_keep hbE (HC6.out j hj)
    exact (World.cell?_of_block (a := ⟨lb, j, none⟩) (hal.block lb (World.block_lt_of_cell? _ _ h1) (by show ¬ lb = ob; omega))).trans h1)
  have HB7 := Lib.hid (below_step HB6.out hbE)
  have HWO : Hid (w.heap.size ≤ ob) := Lib.hid (by have := HB6.out.size; omega)
  clear hob HC6 HB6 hbE
  generalize w6.alloc (.cells #[.string ⟨#[]⟩, .string ⟨#[]⟩, .string ⟨#[]⟩, .string ⟨#[]⟩] 41) = w7 at *
  go_wp2
  go_loopw [12] (fun jv wr => ∃ q : Nat, q ≤ n ∧ jv = .int .i64 (q : Int) ∧ Hid (wr.heap[ob]? = some (.cells (boxL L i k q) 41 (0, 0)) ∧ Alters (fun b => b = ob) w7 wr)) (fun jv _ => n - (intOf jv).toNat)
  case atStart => exact ⟨0, Nat.zero_le _, rfl, Lib.hid ⟨hox, Alters.refl _ _⟩⟩
  case round =>
    obtain ⟨q, hq, rfl, HR0⟩ := hrel
    have hbx := HR0.out.1
    have SH := shorts HLEN.out i k q (by omega) (by omega) (by omega)
    unfold boxL at hbx
    by_cases hlt : q < n
    · have t3 : decide ((q : Int) < (n : Int)) = true := by rw [decide_eq_true_eq]; omega
      have hcq := HC7.out wr HR0.out.2 q (by omega)
      have hci := HC7.out wr HR0.out.2 i (by omega)
      have hck := HC7.out wr HR0.out.2 k (by omega)
      have HSA := Lib.hid (catTo_succ (lnA L) q)
      have HSB := Lib.hid (catTo_succ (lnB L i) q)
      have HSC := Lib.hid (catTo_succ (lnC L i k) q)
      have HSD := Lib.hid (catTo_succ (lnD L i) q)
      have hsa := SH.a
      have hsb := SH.b
      have hsc := SH.c
      have hsd := SH.d
      have hmx : ∀ j (hj : j < L.length), (L[j]'hj).length ≤ 100000 := fun j hj => by have := mem_le (List.getElem_mem hj); have := HLEN.out; omega
      have hmq := hmx q (by omega)
      have hmi := hmx i (by omega)
      have hmk := hmx k (by omega)
      clear SH hmx
      generalize catTo (lnA L) q = A at *
      generalize catTo (lnB L i) q = B at *
      generalize catTo (lnC L i k) q = C at *
      generalize catTo (lnD L i) q = D at *
      have q0 := bx_cell hbx 0 rfl
      have q1 := bx_cell hbx 1 rfl
      have q2 := bx_cell hbx 2 rfl
      have q3 := bx_cell hbx 3 rfl
      have f0 := bx_frozen hbx 0
      have f1 := bx_frozen hbx 1
      have f2 := bx_frozen hbx 2
      have f3 := bx_frozen hbx 3
      have hlq : q < L.length := by omega
      have hli : i < L.length := by omega
      have hlk : k < L.length := by omega
      obtain ⟨lq, hlqe⟩ : ∃ lq, L[q]'hlq = lq := ⟨_, rfl⟩
      obtain ⟨lk, hlke⟩ : ∃ lk, L[k]'hlk = lk := ⟨_, rfl⟩
      obtain ⟨li, hlie⟩ : ∃ li, L[i]'hli = li := ⟨_, rfl⟩
      rw [hlqe] at hcq hmq
      rw [hlke] at hck hmk
      rw [hlie] at hci hmi
      have HQE := Lib.hid hlqe
      have HKE := Lib.hid hlke
      have HIE := Lib.hid hlie
      have HBX := Lib.hid hbx
      clear hlqe hlke hlie hbx
      have u1 : ¬ 9223372036854775807 < lq.length + 1 := by omega
      have u2 : ¬ 9223372036854775807 < A.length + (lq.length + 1) := by omega
      have u3 : ¬ 9223372036854775807 < B.length + (lq.length + 1) := by omega
      have u4 : ¬ 9223372036854775807 < B.length + (lq.length + 1) + (lq.length + 1) := by omega
      have u5 : ¬ 9223372036854775807 < C.length + (lq.length + 1) := by omega
      have u6 : ¬ 9223372036854775807 < C.length + (li.length + 1) := by omega
      have u7 : ¬ 9223372036854775807 < C.length + (lk.length + 1) := by omega
      have u8 : ¬ 9223372036854775807 < D.length + (lq.length + 1) := by omega
      have u9 : ¬ 9223372036854775807 < D.length + (lq.length + 1 + 1) := by omega
      have v1 : ¬ 9223372036854775807 < lq.length + 1 + 1 := by omega
      have v2 : ¬ 9223372036854775807 < li.length + 1 := by omega
      have v3 : ¬ 9223372036854775807 < lk.length + 1 := by omega
      have yb : IntKind.i64.wrap ((n : Int) - 1) = (n : Int) - 1 := IntWalk.i64_in _ (by omega)
      have yq : IntKind.i64.wrap ((q : Int) + 1) = (q : Int) + 1 := IntWalk.i64_in _ (by omega)
      have b3 : (0 : Int) ≤ (q : Int) := by omega
      have b5 : (0 : Int) ≤ (k : Int) := by omega
      have b6 : (0 : Int) ≤ (i : Int) := by omega
      by_cases hl1 : q < n - 1
      · have t4 : decide ((q : Int) < (n : Int) - 1) = true := by rw [decide_eq_true_eq]; omega
        have EA : Hid (lnA L q = lq ++ [10]) := Lib.hid (by unfold lnA; rw [if_pos (by omega), List.getElem?_eq_getElem hlq, Option.getD_some, HQE.out])
        by_cases hqi : q = i
        · skip
          have HX : Hid (li = lq) := Lib.hid (by rw [← HQE.out, ← HIE.out]; simp only [hqi])
          have t5 : ((q : Int) == (i : Int)) = true := by rw [beq_iff_eq]; omega
          have EB : Hid (lnB L i q = lq ++ [10] ++ (lq ++ [10])) := Lib.hid (by unfold lnB; rw [List.getElem?_eq_getElem hlq, Option.getD_some, HQE.out, if_pos hqi])
          have EC : Hid (lnC L i k q = lk ++ [10]) := Lib.hid (by unfold lnC; rw [if_pos hqi, List.getElem?_eq_getElem hlk, Option.getD_some, HKE.out])
          have ED : Hid (lnD L i q = lq ++ [32] ++ [10]) := Lib.hid (by unfold lnD; rw [if_pos hqi, List.getElem?_eq_getElem hlq, Option.getD_some, HQE.out])
          go_wp2
          go_roundw
          case rel =>
            refine ⟨q + 1, by omega, by go_num, Lib.hid ⟨(bx_set_ (bx_set_ (bx_set_ (bx_set_ (bx_set_ HBX.out 0 _) 1 _) 1 _) 2 _) 3 _).trans ?_, ((((HR0.out.2.trans (alters_cell _ ob 0 _)).trans (alters_cell _ ob 1 _)).trans (alters_cell _ ob 1 _)).trans (alters_cell _ ob 2 _)).trans (alters_cell _ ob 3 _)⟩⟩
            unfold boxL
            rw [HSA.out, HSB.out, HSC.out, HSD.out, EA.out, EB.out, EC.out, ED.out]
            first | (simp [app_str]; done) | (simp [app_str, HX.out])
          case measure => simp [intOf]; omega
        · by_cases hqk : q = k
          · skip
            have HX : Hid (lk = lq) := Lib.hid (by rw [← HQE.out, ← HKE.out]; simp only [hqk])
            have t5 : ((q : Int) == (i : Int)) = false := by rw [beq_eq_false_iff_ne]; omega
            have t6 : ((q : Int) == (k : Int)) = true := by rw [beq_iff_eq]; omega
            have EB : Hid (lnB L i q = lq ++ [10]) := Lib.hid (by unfold lnB; rw [List.getElem?_eq_getElem hlq, Option.getD_some, HQE.out, if_neg hqi, List.append_nil])
            have EC : Hid (lnC L i k q = li ++ [10]) := Lib.hid (by unfold lnC; rw [if_neg hqi, if_pos hqk, List.getElem?_eq_getElem hli, Option.getD_some, HIE.out])
            have ED : Hid (lnD L i q = lq ++ [10]) := Lib.hid (by unfold lnD; rw [if_neg hqi, List.getElem?_eq_getElem hlq, Option.getD_some, HQE.out])
            go_wp2
            go_roundw
            case rel =>
              refine ⟨q + 1, by omega, by go_num, Lib.hid ⟨(bx_set_ (bx_set_ (bx_set_ (bx_set_ HBX.out 0 _) 1 _) 2 _) 3 _).trans ?_, (((HR0.out.2.trans (alters_cell _ ob 0 _)).trans (alters_cell _ ob 1 _)).trans (alters_cell _ ob 2 _)).trans (alters_cell _ ob 3 _)⟩⟩
              unfold boxL
              rw [HSA.out, HSB.out, HSC.out, HSD.out, EA.out, EB.out, EC.out, ED.out]
              first | (simp [app_str]; done) | (simp [app_str, HX.out])
            case measure => simp [intOf]; omega
          · skip
            have HX : Hid (lq = lq) := Lib.hid rfl
            have t5 : ((q : Int) == (i : Int)) = false := by rw [beq_eq_false_iff_ne]; omega
            have t6 : ((q : Int) == (k : Int)) = false := by rw [beq_eq_false_iff_ne]; omega
            have EB : Hid (lnB L i q = lq ++ [10]) := Lib.hid (by unfold lnB; rw [List.getElem?_eq_getElem hlq, Option.getD_some, HQE.out, if_neg hqi, List.append_nil])
            have EC : Hid (lnC L i k q = lq ++ [10]) := Lib.hid (by unfold lnC; rw [if_neg hqi, if_neg hqk, List.getElem?_eq_getElem hlq, Option.getD_some, HQE.out])
            have ED : Hid (lnD L i q = lq ++ [10]) := Lib.hid (by unfold lnD; rw [if_neg hqi, List.getElem?_eq_getElem hlq, Option.getD_some, HQE.out])
            go_wp2
            go_roundw
            case rel =>
              refine ⟨q + 1, by omega, by go_num, Lib.hid ⟨(bx_set_ (bx_set_ (bx_set_ (bx_set_ HBX.out 0 _) 1 _) 2 _) 3 _).trans ?_, (((HR0.out.2.trans (alters_cell _ ob 0 _)).trans (alters_cell _ ob 1 _)).trans (alters_cell _ ob 2 _)).trans (alters_cell _ ob 3 _)⟩⟩
              unfold boxL
              rw [HSA.out, HSB.out, HSC.out, HSD.out, EA.out, EB.out, EC.out, ED.out]
              first | (simp [app_str]; done) | (simp [app_str, HX.out])
            case measure => simp [intOf]; omega
      · have t4 : decide ((q : Int) < (n : Int) - 1) = false := by rw [decide_eq_false_iff_not]; omega
        have EA : Hid (lnA L q = []) := Lib.hid (by unfold lnA; rw [if_neg (by omega)])
        by_cases hqi : q = i
        · skip
          have HX : Hid (li = lq) := Lib.hid (by rw [← HQE.out, ← HIE.out]; simp only [hqi])
          have t5 : ((q : Int) == (i : Int)) = true := by rw [beq_iff_eq]; omega
          have EB : Hid (lnB L i q = lq ++ [10] ++ (lq ++ [10])) := Lib.hid (by unfold lnB; rw [List.getElem?_eq_getElem hlq, Option.getD_some, HQE.out, if_pos hqi])
          have EC : Hid (lnC L i k q = lk ++ [10]) := Lib.hid (by unfold lnC; rw [if_pos hqi, List.getElem?_eq_getElem hlk, Option.getD_some, HKE.out])
          have ED : Hid (lnD L i q = lq ++ [32] ++ [10]) := Lib.hid (by unfold lnD; rw [if_pos hqi, List.getElem?_eq_getElem hlq, Option.getD_some, HQE.out])
          go_wp2
          go_roundw
          case rel =>
            refine ⟨q + 1, by omega, by go_num, Lib.hid ⟨(bx_set_ (bx_set_ (bx_set_ (bx_set_ HBX.out 1 _) 1 _) 2 _) 3 _).trans ?_, (((HR0.out.2.trans (alters_cell _ ob 1 _)).trans (alters_cell _ ob 1 _)).trans (alters_cell _ ob 2 _)).trans (alters_cell _ ob 3 _)⟩⟩
            unfold boxL
            rw [HSA.out, HSB.out, HSC.out, HSD.out, EA.out, EB.out, EC.out, ED.out]
            first | (simp [app_str]; done) | (simp [app_str, HX.out])
          case measure => simp [intOf]; omega
        · by_cases hqk : q = k
          · skip
            have HX : Hid (lk = lq) := Lib.hid (by rw [← HQE.out, ← HKE.out]; simp only [hqk])
            have t5 : ((q : Int) == (i : Int)) = false := by rw [beq_eq_false_iff_ne]; omega
            have t6 : ((q : Int) == (k : Int)) = true := by rw [beq_iff_eq]; omega
            have EB : Hid (lnB L i q = lq ++ [10]) := Lib.hid (by unfold lnB; rw [List.getElem?_eq_getElem hlq, Option.getD_some, HQE.out, if_neg hqi, List.append_nil])
            have EC : Hid (lnC L i k q = li ++ [10]) := Lib.hid (by unfold lnC; rw [if_neg hqi, if_pos hqk, List.getElem?_eq_getElem hli, Option.getD_some, HIE.out])
            have ED : Hid (lnD L i q = lq ++ [10]) := Lib.hid (by unfold lnD; rw [if_neg hqi, List.getElem?_eq_getElem hlq, Option.getD_some, HQE.out])
            go_wp2
            go_roundw
            case rel =>
              refine ⟨q + 1, by omega, by go_num, Lib.hid ⟨(bx_set_ (bx_set_ (bx_set_ HBX.out 1 _) 2 _) 3 _).trans ?_, ((HR0.out.2.trans (alters_cell _ ob 1 _)).trans (alters_cell _ ob 2 _)).trans (alters_cell _ ob 3 _)⟩⟩
              unfold boxL
              rw [HSA.out, HSB.out, HSC.out, HSD.out, EA.out, EB.out, EC.out, ED.out]
              first | (simp [app_str]; done) | (simp [app_str, HX.out])
            case measure => simp [intOf]; omega
          · skip
            have HX : Hid (lq = lq) := Lib.hid rfl
            have t5 : ((q : Int) == (i : Int)) = false := by rw [beq_eq_false_iff_ne]; omega
            have t6 : ((q : Int) == (k : Int)) = false := by rw [beq_eq_false_iff_ne]; omega
            have EB : Hid (lnB L i q = lq ++ [10]) := Lib.hid (by unfold lnB; rw [List.getElem?_eq_getElem hlq, Option.getD_some, HQE.out, if_neg hqi, List.append_nil])
            have EC : Hid (lnC L i k q = lq ++ [10]) := Lib.hid (by unfold lnC; rw [if_neg hqi, if_neg hqk, List.getElem?_eq_getElem hlq, Option.getD_some, HQE.out])
            have ED : Hid (lnD L i q = lq ++ [10]) := Lib.hid (by unfold lnD; rw [if_neg hqi, List.getElem?_eq_getElem hlq, Option.getD_some, HQE.out])
            go_wp2
            go_roundw
            case rel =>
              refine ⟨q + 1, by omega, by go_num, Lib.hid ⟨(bx_set_ (bx_set_ (bx_set_ HBX.out 1 _) 2 _) 3 _).trans ?_, ((HR0.out.2.trans (alters_cell _ ob 1 _)).trans (alters_cell _ ob 2 _)).trans (alters_cell _ ob 3 _)⟩⟩
              unfold boxL
              rw [HSA.out, HSB.out, HSC.out, HSD.out, EA.out, EB.out, EC.out, ED.out]
              first | (simp [app_str]; done) | (simp [app_str, HX.out])
            case measure => simp [intOf]; omega
    · obtain rfl : q = n := by omega
      have t3 : decide ((q : Int) < (q : Int)) = false := by rw [decide_eq_false_iff_not]; omega
      have HT0 : Hid (okG (catTo (lnA L) q) = false) := Lib.hid (by
        have h1 := HCA.out
        rw [List.append_assoc, List.singleton_append, HLE.out.1, hLn] at h1
        rw [h1]
        exact HNL.out)
      have HT3 : Hid (okG (catTo (lnD L i) q) = false) := Lib.hid (by
        have hiL : i < L.length := by omega
        have h1 := catD L i hiL
        rw [hLn] at h1
        rw [h1]
        refine no_space (fun l hl => ?_) (List.mem_set hiL _) (by simp)
        rcases List.mem_or_eq_of_mem_set hl with h | h
        · exact (HLI.out l h).1
        · subst h
          intro hm
          rcases List.mem_append.1 hm with hm | hm
          · exact (HLI.out _ (List.getElem_mem hiL)).1 hm
          · simp at hm)
      have HBR := Lib.hid (HB7.out.trans (HR0.out.2.below HB7.out.size (fun b hb => by have hb : b = ob := hb; have := HWO.out; omega)))
      clear HR0
      have hsa := SH.a
      have hsb := SH.b
      have hsc := SH.c
      have hsd := SH.d
      clear SH HLE HCA HNL HC7 HB7 HLI HLEN hox
      generalize catTo (lnA L) q = A at *
      generalize catTo (lnB L i) q = B at *
      generalize catTo (lnC L i k) q = C at *
      generalize catTo (lnD L i) q = D at *
      have HPJ : Hid (∀ t : List UInt8, t.length ≤ 1000000 → ∀ W, Below w.heap.size w W → Calls Tryz.prog 13 #[.string ⟨t.toArray⟩] W fun e w' => ∃ (x : GPl) (h : GameD), e = .returned (.tuple #[.agg (h.cells x), .int .i64 (if okG t = true then 0 else 3)]) ∧ (okG t = true → printG h = t) ∧ GameIn w'.heap.size w' x h ∧ Below W.heap.size W w') := Lib.hid (fun t ht W hb => by
        refine (gparse_any t ht W (HL.out.up hb) (HR.out.up hb)).mono ?_
        rintro e w' ⟨x, rfl, h1, h2⟩
        refine ⟨x, parsedG t, rfl, fun hok => ?_, h1, h2⟩
        unfold parsedG
        rw [if_pos hok]
        unfold okG at hok
        rw [Bool.and_eq_true, decide_eq_true_eq] at hok
        unfold printG
        rw [if_pos hok.1, hok.2])
      have HBX := Lib.hid hbx
      clear hbx
      go_wp2
      generalize wr = wo at *
      go_loopw [15] (fun jv wx => ∃ m : Nat, m ≤ 4 ∧ jv = .int .i64 (m : Int) ∧ Hid (Below wo.heap.size wo wx)) (fun jv _ => 4 - (intOf jv).toNat)
      case atStart => exact ⟨0, Nat.zero_le _, rfl, Lib.hid (Below.refl _ _)⟩
      case round =>
        obtain ⟨m, hm, rfl, HBX2⟩ := hrel
        have hm4 : m = 0 ∨ m = 1 ∨ m = 2 ∨ m = 3 ∨ m = 4 := by omega
        clear hm
        rcases hm4 with rfl | rfl | rfl | rfl | rfl
        · have hok := HT0.out
          have hcl := cell_keep HBX2.out (bx_cell HBX.out 0 rfl)
          have u1 : (4 : Int) = 4 := rfl
          have HBW := Lib.hid (below_step HBR.out HBX2.out)
          have HXO := Lib.hid hcl
          go_wp2_with fail
          refine (HPJ.out A (by omega) wr HBW.out).mono ?_
          rintro e w8 ⟨z, h, rfl, hpr, hG8, hb8⟩
          have HPT := Lib.hid hpr
          clear hpr hcl u1
          have HXO8 := Lib.hid (cell_keep hb8 HXO.out)
          have HB8 := Lib.hid (below_step HBX2.out hb8)
          clear hb8
          have hbY := below_alloc (Below.refl _ w8) (.cells (h.cells z) 38)
          have hY : (w8.alloc (.cells (h.cells z) 38)).heap[w8.heap.size]? = some (.cells (h.cells z) 38 (0, 0)) := hpn _ rfl
          have HG9 := Lib.hid (hG8.up (Nat.le_refl _) hbY)
          have HN9 := Lib.hid hbY.size
          have HXO9 := Lib.hid (cell_keep hbY HXO8.out)
          have HB9 := Lib.hid (below_step HB8.out hbY)
          clear hG8 hbY HXO HXO8 HB8
          unfold GameD.cells at hY HG9 HN9 HXO9 HB9 ⊢
          have he : (if okG A = true then (0 : Int) else 3) = 3 := by rw [hok]; rfl
          rw [he]
          clear he
          go_upto_region 31 with (fail)
          obtain ⟨gb, hgb⟩ : ∃ gb, w8.heap.size = gb := ⟨_, rfl⟩
          rw [hgb] at hY HG9 HN9
          (try simp only [hgb])
          clear hgb
          generalize w8.alloc (.cells #[.int .i64 h.b.cells, .slice z.an h.b.next.length z.cn, .slice z.at_ h.b.turn.length z.ct, .slice z.ak h.kinds.length z.ck, .int .i64 h.rights, .bool h.must, .slice z.ac h.clauses.length z.cc, .int .i64 h.blocked, .int .i64 h.endless] 38) = w9 at *
          have hC : TexC w9 ob gb 38 _ 0 _ w9 := ⟨Below.refl _ _, hY, HXO9.out⟩
          have hC2 := hC.up (Below.refl _ _).drew
          clear hC hY
          refine wp_region_quiet (C := TexC w9 ob gb 38 _ 0 _) (by kernel_rfl) (by kernel_rfl) hC2 ?_
          clear hC2
          dsimp only
          iterate 3
            refine wpQuiet_val (v := ?_) (by rfl) ?_ ?_
            rotate_left
            · ((intro W hW; (try cases hW); go_simp); try with_reducible rfl)
            (try simp only [Act.put, List.setIfInBounds_toArray, List.set_cons_zero, List.set_cons_succ])
          iterate 6
            refine wpQuiet_off (by rfl) ?_
            (try simp only [Act.put, List.setIfInBounds_toArray, List.set_cons_zero, List.set_cons_succ])
          iterate 9
            refine wpQuiet_val (v := ?_) (by rfl) ?_ ?_
            rotate_left
            · ((intro W hW; (try cases hW); go_simp); try with_reducible rfl)
            (try simp only [Act.put, List.setIfInBounds_toArray, List.set_cons_zero, List.set_cons_succ])
          refine wpQuiet_nil (fun w10 hW => ?_)
          have HB10 := Lib.hid (below_step HB9.out hW.b)
          clear hW
          go_wp2
          go_roundw
          case rel => exact ⟨0 + 1, by omega, by first | rfl | go_num, HB10⟩
          case measure => simp [intOf]
        · cases hok : okG B with
          | false =>
            have hcl := cell_keep HBX2.out (bx_cell HBX.out 1 rfl)
            have u1 : (4 : Int) = 4 := rfl
            have HBW := Lib.hid (below_step HBR.out HBX2.out)
            have HXO := Lib.hid hcl
            go_wp2_with fail
            refine (HPJ.out B (by omega) wr HBW.out).mono ?_
            rintro e w8 ⟨z, h, rfl, hpr, hG8, hb8⟩
            have HPT := Lib.hid hpr
            clear hpr hcl u1
            have HXO8 := Lib.hid (cell_keep hb8 HXO.out)
            have HB8 := Lib.hid (below_step HBX2.out hb8)
            clear hb8
            have hbY := below_alloc (Below.refl _ w8) (.cells (h.cells z) 38)
            have hY : (w8.alloc (.cells (h.cells z) 38)).heap[w8.heap.size]? = some (.cells (h.cells z) 38 (0, 0)) := hpn _ rfl
            have HG9 := Lib.hid (hG8.up (Nat.le_refl _) hbY)
            have HN9 := Lib.hid hbY.size
            have HXO9 := Lib.hid (cell_keep hbY HXO8.out)
            have HB9 := Lib.hid (below_step HB8.out hbY)
            clear hG8 hbY HXO HXO8 HB8
            unfold GameD.cells at hY HG9 HN9 HXO9 HB9 ⊢
            have he : (if okG B = true then (0 : Int) else 3) = 3 := by rw [hok]; rfl
            rw [he]
            clear he
            go_upto_region 31 with (fail)
            obtain ⟨gb, hgb⟩ : ∃ gb, w8.heap.size = gb := ⟨_, rfl⟩
            rw [hgb] at hY HG9 HN9
            (try simp only [hgb])
            clear hgb
            generalize w8.alloc (.cells #[.int .i64 h.b.cells, .slice z.an h.b.next.length z.cn, .slice z.at_ h.b.turn.length z.ct, .slice z.ak h.kinds.length z.ck, .int .i64 h.rights, .bool h.must, .slice z.ac h.clauses.length z.cc, .int .i64 h.blocked, .int .i64 h.endless] 38) = w9 at *
            have hC : TexC w9 ob gb 38 _ 1 _ w9 := ⟨Below.refl _ _, hY, HXO9.out⟩
            have hC2 := hC.up (Below.refl _ _).drew
            clear hC hY
            refine wp_region_quiet (C := TexC w9 ob gb 38 _ 1 _) (by kernel_rfl) (by kernel_rfl) hC2 ?_
            clear hC2
            dsimp only
            iterate 3
              refine wpQuiet_val (v := ?_) (by rfl) ?_ ?_
              rotate_left
              · ((intro W hW; (try cases hW); go_simp); try with_reducible rfl)
              (try simp only [Act.put, List.setIfInBounds_toArray, List.set_cons_zero, List.set_cons_succ])
            iterate 6
              refine wpQuiet_off (by rfl) ?_
              (try simp only [Act.put, List.setIfInBounds_toArray, List.set_cons_zero, List.set_cons_succ])
            iterate 9
              refine wpQuiet_val (v := ?_) (by rfl) ?_ ?_
              rotate_left
              · ((intro W hW; (try cases hW); go_simp); try with_reducible rfl)
              (try simp only [Act.put, List.setIfInBounds_toArray, List.set_cons_zero, List.set_cons_succ])
            refine wpQuiet_nil (fun w10 hW => ?_)
            have HB10 := Lib.hid (below_step HB9.out hW.b)
            clear hW
            go_wp2
            go_roundw
            case rel => exact ⟨1 + 1, by omega, by first | rfl | go_num, HB10⟩
            case measure => simp [intOf]
          | true =>
            have hcl := cell_keep HBX2.out (bx_cell HBX.out 1 rfl)
            have u1 : (4 : Int) = 4 := rfl
            have HBW := Lib.hid (below_step HBR.out HBX2.out)
            have HXO := Lib.hid hcl
            go_wp2_with fail
            refine (HPJ.out B (by omega) wr HBW.out).mono ?_
            rintro e w8 ⟨z, h, rfl, hpr, hG8, hb8⟩
            have HPT := Lib.hid hpr
            clear hpr hcl u1
            have HXO8 := Lib.hid (cell_keep hb8 HXO.out)
            have HB8 := Lib.hid (below_step HBX2.out hb8)
            clear hb8
            have hbY := below_alloc (Below.refl _ w8) (.cells (h.cells z) 38)
            have hY : (w8.alloc (.cells (h.cells z) 38)).heap[w8.heap.size]? = some (.cells (h.cells z) 38 (0, 0)) := hpn _ rfl
            have HG9 := Lib.hid (hG8.up (Nat.le_refl _) hbY)
            have HN9 := Lib.hid hbY.size
            have HXO9 := Lib.hid (cell_keep hbY HXO8.out)
            have HB9 := Lib.hid (below_step HB8.out hbY)
            clear hG8 hbY HXO HXO8 HB8
            unfold GameD.cells at hY HG9 HN9 HXO9 HB9 ⊢
            have he : (if okG B = true then (0 : Int) else 3) = 0 := by rw [hok]; rfl
            rw [he]
            clear he
            go_upto_region 31 with (fail)
            obtain ⟨gb, hgb⟩ : ∃ gb, w8.heap.size = gb := ⟨_, rfl⟩
            rw [hgb] at hY HG9 HN9
            (try simp only [hgb])
            clear hgb
            generalize w8.alloc (.cells #[.int .i64 h.b.cells, .slice z.an h.b.next.length z.cn, .slice z.at_ h.b.turn.length z.ct, .slice z.ak h.kinds.length z.ck, .int .i64 h.rights, .bool h.must, .slice z.ac h.clauses.length z.cc, .int .i64 h.blocked, .int .i64 h.endless] 38) = w9 at *
            have hC : TexC w9 ob gb 38 _ 1 _ w9 := ⟨Below.refl _ _, hY, HXO9.out⟩
            have hC2 := hC.up (Below.refl _ _).drew
            clear hC hY
            refine wp_region_quiet (C := TexC w9 ob gb 38 _ 1 _) (by kernel_rfl) (by kernel_rfl) hC2 ?_
            clear hC2
            dsimp only
            have HPP : Hid (∀ W, Below w9.heap.size w9 W → Calls Tryz.prog 15 #[.agg #[.int .i64 h.b.cells, .slice z.an h.b.next.length z.cn, .slice z.at_ h.b.turn.length z.ct, .slice z.ak h.kinds.length z.ck, .int .i64 h.rights, .bool h.must, .slice z.ac h.clauses.length z.cc, .int .i64 h.blocked, .int .i64 h.endless]] W fun e w' => e = .returned (.string ⟨B.toArray⟩) ∧ Below W.heap.size W w') := Lib.hid (fun W hb => by
              have hbw := below_step (below_step HBR.out HB9.out) hb
              have := gprint_any h z gb W (Nat.le_trans HN9.out hb.size) (HG9.out.up HN9.out hb) (HL.out.up hbw) (HR.out.up hbw)
              rw [HPT.out hok] at this
              exact this)
            iterate 3
              refine wpQuiet_val (v := ?_) (by rfl) ?_ ?_
              rotate_left
              · ((intro W hW; (try cases hW); go_simp); try with_reducible rfl)
              (try simp only [Act.put, List.setIfInBounds_toArray, List.set_cons_zero, List.set_cons_succ])
            refine wpQuiet_val (v := .agg #[.int .i64 h.b.cells, .slice z.an h.b.next.length z.cn, .slice z.at_ h.b.turn.length z.ct, .slice z.ak h.kinds.length z.ck, .int .i64 h.rights, .bool h.must, .slice z.ac h.clauses.length z.cc, .int .i64 h.blocked, .int .i64 h.endless]) (by rfl) (fun W hW => ?_) ?_
            · have q0 := bx_cell hW.g 0 rfl
              have q1 := bx_cell hW.g 1 rfl
              have q2 := bx_cell hW.g 2 rfl
              have q3 := bx_cell hW.g 3 rfl
              have q4 := bx_cell hW.g 4 rfl
              have q5 := bx_cell hW.g 5 rfl
              have q6 := bx_cell hW.g 6 rfl
              have q7 := bx_cell hW.g 7 rfl
              have q8 := bx_cell hW.g 8 rfl
              go_simp
            (try simp only [Act.put, List.setIfInBounds_toArray, List.set_cons_zero, List.set_cons_succ])
            refine wpQuiet_val (v := .string ⟨B.toArray⟩) (by rfl) (fun W hW => ?_) ?_
            · go_simp
              exact (HPP.out W hW.b).mono fun e w' ⟨he, hb⟩ => ⟨he, hW.up hb⟩
            (try simp only [Act.put, List.setIfInBounds_toArray, List.set_cons_zero, List.set_cons_succ])
            iterate 9
              refine wpQuiet_val (v := ?_) (by rfl) ?_ ?_
              rotate_left
              · ((intro W hW; (try cases hW); go_simp); try with_reducible rfl)
              (try simp only [Act.put, List.setIfInBounds_toArray, List.set_cons_zero, List.set_cons_succ])
            iterate 2
              refine wpQuiet_off (by rfl) ?_
              (try simp only [Act.put, List.setIfInBounds_toArray, List.set_cons_zero, List.set_cons_succ])
            iterate 2
              refine wpQuiet_val (v := ?_) (by rfl) ?_ ?_
              rotate_left
              · ((intro W hW; (try cases hW); go_simp); try with_reducible rfl)
              (try simp only [Act.put, List.setIfInBounds_toArray, List.set_cons_zero, List.set_cons_succ])
            refine wpQuiet_nil (fun w10 hW => ?_)
            have HB10 := Lib.hid (below_step HB9.out hW.b)
            clear hW
            go_wp2
            go_roundw
            case rel => exact ⟨1 + 1, by omega, by first | rfl | go_num, HB10⟩
            case measure => simp [intOf]
        · cases hok : okG C with
          | false =>
            have hcl := cell_keep HBX2.out (bx_cell HBX.out 2 rfl)
            have u1 : (4 : Int) = 4 := rfl
            have HBW := Lib.hid (below_step HBR.out HBX2.out)
            have HXO := Lib.hid hcl
            go_wp2_with fail
            refine (HPJ.out C (by omega) wr HBW.out).mono ?_
            rintro e w8 ⟨z, h, rfl, hpr, hG8, hb8⟩
            have HPT := Lib.hid hpr
            clear hpr hcl u1
            have HXO8 := Lib.hid (cell_keep hb8 HXO.out)
            have HB8 := Lib.hid (below_step HBX2.out hb8)
            clear hb8
            have hbY := below_alloc (Below.refl _ w8) (.cells (h.cells z) 38)
            have hY : (w8.alloc (.cells (h.cells z) 38)).heap[w8.heap.size]? = some (.cells (h.cells z) 38 (0, 0)) := hpn _ rfl
            have HG9 := Lib.hid (hG8.up (Nat.le_refl _) hbY)
            have HN9 := Lib.hid hbY.size
            have HXO9 := Lib.hid (cell_keep hbY HXO8.out)
            have HB9 := Lib.hid (below_step HB8.out hbY)
            clear hG8 hbY HXO HXO8 HB8
            unfold GameD.cells at hY HG9 HN9 HXO9 HB9 ⊢
            have he : (if okG C = true then (0 : Int) else 3) = 3 := by rw [hok]; rfl
            rw [he]
            clear he
            go_upto_region 31 with (fail)
            obtain ⟨gb, hgb⟩ : ∃ gb, w8.heap.size = gb := ⟨_, rfl⟩
            rw [hgb] at hY HG9 HN9
            (try simp only [hgb])
            clear hgb
            generalize w8.alloc (.cells #[.int .i64 h.b.cells, .slice z.an h.b.next.length z.cn, .slice z.at_ h.b.turn.length z.ct, .slice z.ak h.kinds.length z.ck, .int .i64 h.rights, .bool h.must, .slice z.ac h.clauses.length z.cc, .int .i64 h.blocked, .int .i64 h.endless] 38) = w9 at *
            have hC : TexC w9 ob gb 38 _ 2 _ w9 := ⟨Below.refl _ _, hY, HXO9.out⟩
            have hC2 := hC.up (Below.refl _ _).drew
            clear hC hY
            refine wp_region_quiet (C := TexC w9 ob gb 38 _ 2 _) (by kernel_rfl) (by kernel_rfl) hC2 ?_
            clear hC2
            dsimp only
            iterate 3
              refine wpQuiet_val (v := ?_) (by rfl) ?_ ?_
              rotate_left
              · ((intro W hW; (try cases hW); go_simp); try with_reducible rfl)
              (try simp only [Act.put, List.setIfInBounds_toArray, List.set_cons_zero, List.set_cons_succ])
            iterate 6
              refine wpQuiet_off (by rfl) ?_
              (try simp only [Act.put, List.setIfInBounds_toArray, List.set_cons_zero, List.set_cons_succ])
            iterate 9
              refine wpQuiet_val (v := ?_) (by rfl) ?_ ?_
              rotate_left
              · ((intro W hW; (try cases hW); go_simp); try with_reducible rfl)
              (try simp only [Act.put, List.setIfInBounds_toArray, List.set_cons_zero, List.set_cons_succ])
            refine wpQuiet_nil (fun w10 hW => ?_)
            have HB10 := Lib.hid (below_step HB9.out hW.b)
            clear hW
            go_wp2
            go_roundw
            case rel => exact ⟨2 + 1, by omega, by first | rfl | go_num, HB10⟩
            case measure => simp [intOf]
          | true =>
            have hcl := cell_keep HBX2.out (bx_cell HBX.out 2 rfl)
            have u1 : (4 : Int) = 4 := rfl
            have HBW := Lib.hid (below_step HBR.out HBX2.out)
            have HXO := Lib.hid hcl
            go_wp2_with fail
            refine (HPJ.out C (by omega) wr HBW.out).mono ?_
            rintro e w8 ⟨z, h, rfl, hpr, hG8, hb8⟩
            have HPT := Lib.hid hpr
            clear hpr hcl u1
            have HXO8 := Lib.hid (cell_keep hb8 HXO.out)
            have HB8 := Lib.hid (below_step HBX2.out hb8)
            clear hb8
            have hbY := below_alloc (Below.refl _ w8) (.cells (h.cells z) 38)
            have hY : (w8.alloc (.cells (h.cells z) 38)).heap[w8.heap.size]? = some (.cells (h.cells z) 38 (0, 0)) := hpn _ rfl
            have HG9 := Lib.hid (hG8.up (Nat.le_refl _) hbY)
            have HN9 := Lib.hid hbY.size
            have HXO9 := Lib.hid (cell_keep hbY HXO8.out)
            have HB9 := Lib.hid (below_step HB8.out hbY)
            clear hG8 hbY HXO HXO8 HB8
            unfold GameD.cells at hY HG9 HN9 HXO9 HB9 ⊢
            have he : (if okG C = true then (0 : Int) else 3) = 0 := by rw [hok]; rfl
            rw [he]
            clear he
            go_upto_region 31 with (fail)
            obtain ⟨gb, hgb⟩ : ∃ gb, w8.heap.size = gb := ⟨_, rfl⟩
            rw [hgb] at hY HG9 HN9
            (try simp only [hgb])
            clear hgb
            generalize w8.alloc (.cells #[.int .i64 h.b.cells, .slice z.an h.b.next.length z.cn, .slice z.at_ h.b.turn.length z.ct, .slice z.ak h.kinds.length z.ck, .int .i64 h.rights, .bool h.must, .slice z.ac h.clauses.length z.cc, .int .i64 h.blocked, .int .i64 h.endless] 38) = w9 at *
            have hC : TexC w9 ob gb 38 _ 2 _ w9 := ⟨Below.refl _ _, hY, HXO9.out⟩
            have hC2 := hC.up (Below.refl _ _).drew
            clear hC hY
            refine wp_region_quiet (C := TexC w9 ob gb 38 _ 2 _) (by kernel_rfl) (by kernel_rfl) hC2 ?_
            clear hC2
            dsimp only
            have HPP : Hid (∀ W, Below w9.heap.size w9 W → Calls Tryz.prog 15 #[.agg #[.int .i64 h.b.cells, .slice z.an h.b.next.length z.cn, .slice z.at_ h.b.turn.length z.ct, .slice z.ak h.kinds.length z.ck, .int .i64 h.rights, .bool h.must, .slice z.ac h.clauses.length z.cc, .int .i64 h.blocked, .int .i64 h.endless]] W fun e w' => e = .returned (.string ⟨C.toArray⟩) ∧ Below W.heap.size W w') := Lib.hid (fun W hb => by
              have hbw := below_step (below_step HBR.out HB9.out) hb
              have := gprint_any h z gb W (Nat.le_trans HN9.out hb.size) (HG9.out.up HN9.out hb) (HL.out.up hbw) (HR.out.up hbw)
              rw [HPT.out hok] at this
              exact this)
            iterate 3
              refine wpQuiet_val (v := ?_) (by rfl) ?_ ?_
              rotate_left
              · ((intro W hW; (try cases hW); go_simp); try with_reducible rfl)
              (try simp only [Act.put, List.setIfInBounds_toArray, List.set_cons_zero, List.set_cons_succ])
            refine wpQuiet_val (v := .agg #[.int .i64 h.b.cells, .slice z.an h.b.next.length z.cn, .slice z.at_ h.b.turn.length z.ct, .slice z.ak h.kinds.length z.ck, .int .i64 h.rights, .bool h.must, .slice z.ac h.clauses.length z.cc, .int .i64 h.blocked, .int .i64 h.endless]) (by rfl) (fun W hW => ?_) ?_
            · have q0 := bx_cell hW.g 0 rfl
              have q1 := bx_cell hW.g 1 rfl
              have q2 := bx_cell hW.g 2 rfl
              have q3 := bx_cell hW.g 3 rfl
              have q4 := bx_cell hW.g 4 rfl
              have q5 := bx_cell hW.g 5 rfl
              have q6 := bx_cell hW.g 6 rfl
              have q7 := bx_cell hW.g 7 rfl
              have q8 := bx_cell hW.g 8 rfl
              go_simp
            (try simp only [Act.put, List.setIfInBounds_toArray, List.set_cons_zero, List.set_cons_succ])
            refine wpQuiet_val (v := .string ⟨C.toArray⟩) (by rfl) (fun W hW => ?_) ?_
            · go_simp
              exact (HPP.out W hW.b).mono fun e w' ⟨he, hb⟩ => ⟨he, hW.up hb⟩
            (try simp only [Act.put, List.setIfInBounds_toArray, List.set_cons_zero, List.set_cons_succ])
            iterate 9
              refine wpQuiet_val (v := ?_) (by rfl) ?_ ?_
              rotate_left
              · ((intro W hW; (try cases hW); go_simp); try with_reducible rfl)
              (try simp only [Act.put, List.setIfInBounds_toArray, List.set_cons_zero, List.set_cons_succ])
            iterate 2
              refine wpQuiet_off (by rfl) ?_
              (try simp only [Act.put, List.setIfInBounds_toArray, List.set_cons_zero, List.set_cons_succ])
            iterate 2
              refine wpQuiet_val (v := ?_) (by rfl) ?_ ?_
              rotate_left
              · ((intro W hW; (try cases hW); go_simp); try with_reducible rfl)
              (try simp only [Act.put, List.setIfInBounds_toArray, List.set_cons_zero, List.set_cons_succ])
            refine wpQuiet_nil (fun w10 hW => ?_)
            have HB10 := Lib.hid (below_step HB9.out hW.b)
            clear hW
            go_wp2
            go_roundw
            case rel => exact ⟨2 + 1, by omega, by first | rfl | go_num, HB10⟩
            case measure => simp [intOf]
        · have hok := HT3.out
          have hcl := cell_keep HBX2.out (bx_cell HBX.out 3 rfl)
          have u1 : (4 : Int) = 4 := rfl
          have HBW := Lib.hid (below_step HBR.out HBX2.out)
          have HXO := Lib.hid hcl
          go_wp2_with fail
          refine (HPJ.out D (by omega) wr HBW.out).mono ?_
          rintro e w8 ⟨z, h, rfl, hpr, hG8, hb8⟩
          have HPT := Lib.hid hpr
          clear hpr hcl u1
          have HXO8 := Lib.hid (cell_keep hb8 HXO.out)
          have HB8 := Lib.hid (below_step HBX2.out hb8)
          clear hb8
          have hbY := below_alloc (Below.refl _ w8) (.cells (h.cells z) 38)
          have hY : (w8.alloc (.cells (h.cells z) 38)).heap[w8.heap.size]? = some (.cells (h.cells z) 38 (0, 0)) := hpn _ rfl
          have HG9 := Lib.hid (hG8.up (Nat.le_refl _) hbY)
          have HN9 := Lib.hid hbY.size
          have HXO9 := Lib.hid (cell_keep hbY HXO8.out)
          have HB9 := Lib.hid (below_step HB8.out hbY)
          clear hG8 hbY HXO HXO8 HB8
          unfold GameD.cells at hY HG9 HN9 HXO9 HB9 ⊢
          have he : (if okG D = true then (0 : Int) else 3) = 3 := by rw [hok]; rfl
          rw [he]
          clear he
          go_upto_region 31 with (fail)
          obtain ⟨gb, hgb⟩ : ∃ gb, w8.heap.size = gb := ⟨_, rfl⟩
          rw [hgb] at hY HG9 HN9
          (try simp only [hgb])
          clear hgb
          generalize w8.alloc (.cells #[.int .i64 h.b.cells, .slice z.an h.b.next.length z.cn, .slice z.at_ h.b.turn.length z.ct, .slice z.ak h.kinds.length z.ck, .int .i64 h.rights, .bool h.must, .slice z.ac h.clauses.length z.cc, .int .i64 h.blocked, .int .i64 h.endless] 38) = w9 at *
          have hC : TexC w9 ob gb 38 _ 3 _ w9 := ⟨Below.refl _ _, hY, HXO9.out⟩
          have hC2 := hC.up (Below.refl _ _).drew
          clear hC hY
          refine wp_region_quiet (C := TexC w9 ob gb 38 _ 3 _) (by kernel_rfl) (by kernel_rfl) hC2 ?_
          clear hC2
          dsimp only
          iterate 3
            refine wpQuiet_val (v := ?_) (by rfl) ?_ ?_
            rotate_left
            · ((intro W hW; (try cases hW); go_simp); try with_reducible rfl)
            (try simp only [Act.put, List.setIfInBounds_toArray, List.set_cons_zero, List.set_cons_succ])
          iterate 6
            refine wpQuiet_off (by rfl) ?_
            (try simp only [Act.put, List.setIfInBounds_toArray, List.set_cons_zero, List.set_cons_succ])
          iterate 9
            refine wpQuiet_val (v := ?_) (by rfl) ?_ ?_
            rotate_left
            · ((intro W hW; (try cases hW); go_simp); try with_reducible rfl)
            (try simp only [Act.put, List.setIfInBounds_toArray, List.set_cons_zero, List.set_cons_succ])
          refine wpQuiet_nil (fun w10 hW => ?_)
          have HB10 := Lib.hid (below_step HB9.out hW.b)
          clear hW
          go_wp2
          go_roundw
          case rel => exact ⟨3 + 1, by omega, by first | rfl | go_num, HB10⟩
          case measure => simp [intOf]
        · go_wp2
          go_ret
          exact ⟨rfl, below_step HBR.out HBX2.out⟩
end Go.Proofs.YteknjmaenjfheaaGreatDoor
