/-
  For every game, list of positions and two odd positions, as data whose bulk is at most 1048576, PosMatchesReference of the landed program returns true, and its arguments read as before. Conditions: the narrower form's bound, and the given row (its listed variables as the text lays them).
  What the bound of the narrower form gives of a position's lists.
-/
import Derived.Test.YtphhkfelpckilaaGreatDoorDLiftQ
import Derived.JoinedCond
import Derived.Deep.DeepHandedRow
import Derived.Test.YtphhkfelpckilaaGreatDoorPRef
import Derived.Test.YtphhkfelpckilaaGreatDoorDSan
namespace Go.Proofs.YtphhkfelpckilaaGreatDoor
open Go Go.ChangeShapes Go.WideShapes Go.ChangeAt Go.WideMaps Go.WideElems Go.RowKit

theorem bulk_one {H : Type} (d : DataW H) : 1 ≤ Rows.uptoBulk d := by
  cases d with
  | lit l => cases l <;> simp [Rows.uptoBulk]
  | nil => simp [Rows.uptoBulk]
  | ptr d => simp [Rows.uptoBulk]
  | slice elems spare => simp [Rows.uptoBulk]
  | agg parts => simp [Rows.uptoBulk]
  | iface t d => simp [Rows.uptoBulk]
  | map entries => simp [Rows.uptoBulk]
  | held h => simp [Rows.uptoBulk]
theorem bulk_len {H : Type} (l : List (DataW H)) : l.length ≤ Rows.uptoBulkAll l := by
  induction l with
  | nil => simp [Rows.uptoBulkAll]
  | cons x r ih => have := bulk_one x; simp only [Rows.uptoBulkAll, List.length_cons]; omega
theorem bulk_agg {H : Type} (l : List (DataW H)) : Rows.uptoBulkAll l ≤ Rows.uptoBulk (.agg l) := by
  simp only [Rows.uptoBulk]; omega
theorem bulk_part {H : Type} {d : DataW H} {l : List (DataW H)} (h : d ∈ l) : Rows.uptoBulk d ≤ Rows.uptoBulkAll l := by
  induction l with
  | nil => cases h
  | cons x r ih =>
    simp only [Rows.uptoBulkAll]
    cases List.mem_cons.1 h with
    | inl e => subst e; omega
    | inr e => have := ih e; omega

section
variable {H : Type} {enc : TypeId × Value → H} {W : World} {m : Nat} {q : DataW H × List MemPlace}
theorem ints_bulk {a : Option Addr} {n c : Nat} (h : DataW.trod enc Tryz.prog W 0 (fun _ => true) true m 29 [.slice a n c] = some q) : n ≤ Rows.uptoBulk q.1 := by
  rcases DataW.trod_slice Tryz.underlying29 h with ⟨h1, _⟩ | ⟨a', len, cap, elems, rest, k, _, h2, rfl, _, _, _, h3, _⟩
  · obtain rfl : n = 0 := by simp at h1; exact h1.2.1
    exact Nat.zero_le _
  · obtain rfl : n = len := by simp at h2; exact h2.2.1
    have h4 := bulk_len (elems.map (·.1))
    simp only [Rows.uptoBulk]
    rw [List.length_map] at h4
    omega
theorem two_le {d e : DataW H} {l : List (DataW H)} {i j : Nat} (hi : l[i]? = some d) (hj : l[j]? = some e) (hij : i < j) : Rows.uptoBulk d + Rows.uptoBulk e ≤ Rows.uptoBulkAll l := by
  induction l generalizing i j with
  | nil => simp at hi
  | cons x r ih =>
    simp only [Rows.uptoBulkAll]
    cases j with
    | zero => omega
    | succ j =>
      rw [List.getElem?_cons_succ] at hj
      cases i with
      | zero =>
        simp at hi
        subst hi
        have := bulk_part (List.mem_of_getElem? hj)
        omega
      | succ i =>
        rw [List.getElem?_cons_succ] at hi
        have := ih hi hj (by omega)
        omega
set_option maxRecDepth 100000 in
theorem pos_bulk {x : PosA} (h : DataW.trod enc Tryz.prog W 0 (fun _ => true) true m 32 x.enc = some q) : x.p.cells.length + x.p.h0.length + x.p.h1.length ≤ Rows.uptoBulk q.1 := by
  unfold PosA.enc at h
  obtain ⟨ys, m, rfl, rfl, _, hyl, hel⟩ := DataW.trod_struct Tryz.underlying32 h
  have f0 : DataW.trod enc Tryz.prog W 0 (fun _ => true) true m 29 ((([.slice x.a x.p.cells.length x.c, .slice x.a0 x.p.h0.length x.c0, .slice x.a1 x.p.h1.length x.c1, .int .i64 x.p.rights, .int .i64 x.p.side] : List Value).drop 0).take (Tryz.prog.cellsOf 29)) = ys[0]? := hel 0 _ rfl
  have f1 : DataW.trod enc Tryz.prog W 0 (fun _ => true) true m 30 ((([.slice x.a x.p.cells.length x.c, .slice x.a0 x.p.h0.length x.c0, .slice x.a1 x.p.h1.length x.c1, .int .i64 x.p.rights, .int .i64 x.p.side] : List Value).drop 1).take (Tryz.prog.cellsOf 30)) = ys[1]? := hel 1 _ rfl
  have hl4 : ys.length = 4 := hyl
  rw [cHands, List.getElem?_eq_getElem (by omega)] at f1
  rw [cInts, List.getElem?_eq_getElem (by omega)] at f0
  simp only [List.drop_zero, List.drop_succ_cons, List.take_succ_cons, List.take_zero] at f0 f1
  have b0 := ints_bulk f0
  obtain ⟨zs, m2, rfl, e1, _, hzl, hze⟩ := DataW.trod_array Tryz.underlying30 f1
  rw [cInts] at hze
  have g0 := hze 0 (by omega)
  have g1 := hze 1 (by omega)
  rw [List.getElem?_eq_getElem (by omega)] at g0 g1
  simp only [Nat.zero_mul, Nat.one_mul, List.drop_zero, List.drop_succ_cons, List.take_succ_cons, List.take_zero] at g0 g1
  have b1 := ints_bulk g0
  have b2 := ints_bulk g1
  have t1 := two_le (l := zs.map (·.1)) (i := 0) (j := 1) (d := zs[0].1) (e := zs[1].1) (by rw [List.getElem?_map, List.getElem?_eq_getElem (by omega)]; rfl) (by rw [List.getElem?_map, List.getElem?_eq_getElem (by omega)]; rfl) (by omega)
  have t2 := two_le (l := ys.map (·.1)) (i := 0) (j := 1) (d := ys[0].1) (e := ys[1].1) (by rw [List.getElem?_map, List.getElem?_eq_getElem (by omega)]; rfl) (by rw [List.getElem?_map, List.getElem?_eq_getElem (by omega)]; rfl) (by omega)
  have t3 := bulk_agg (zs.map (·.1))
  have t4 := bulk_agg (ys.map (·.1))
  have t5 : ys[1].1 = .agg (zs.map (·.1)) := by rw [e1]
  rw [t5] at t2
  show _ ≤ Rows.uptoBulk (.agg (ys.map (·.1)))
  omega
set_option maxRecDepth 100000 in
theorem pos2_bulk {x y : PosA} (h : DataW.trod enc Tryz.prog W 0 (fun _ => true) true m 33 (x.enc ++ y.enc) = some q) : x.p.cells.length + x.p.h0.length + x.p.h1.length ≤ Rows.uptoBulk q.1 := by
  obtain ⟨zs, n, rfl, rfl, _, hzl, hze⟩ := DataW.trod_array Tryz.underlying33 h
  rw [cPos] at hze
  have g0 := hze 0 (by omega)
  rw [List.getElem?_eq_getElem (by omega)] at g0
  have e : ((x.enc ++ y.enc).drop (0 * 5)).take 5 = x.enc := by simp [PosA.enc]
  rw [e] at g0
  have b0 := pos_bulk g0
  have t1 := bulk_part (d := zs[0].1) (l := zs.map (·.1)) (List.mem_map.2 ⟨zs[0], List.getElem_mem _, rfl⟩)
  have t2 := bulk_agg (zs.map (·.1))
  show _ ≤ Rows.uptoBulk (.agg (zs.map (·.1)))
  omega
end
end Go.Proofs.YtphhkfelpckilaaGreatDoor

namespace Go.Proofs.YtphhkfelpckilaaGreatDoor
open Go Go.ChangeShapes Go.WideShapes Go.ChangeAt Go.WideMaps Go.WideElems Go.RowKit

theorem pRefParams : Tryz.f3.params = #[27, 28, 33] := by kernel_rfl

set_option maxRecDepth 100000 in
theorem pRef_contract (H : Type) (enc : TypeId × Value → H) (W : World) (base : Nat) (args : Array Value) (ds gs : List (DataW H)) (before : List MemPlace)
    (hval0 : ∀ (j : Nat) t v, Tryz.f3.params[j]? = some t → args[j]? = some v → Value.okWide Tryz.prog W .any base t v)
    (hW : DataW.Whole enc Tryz.prog Tryz.f3.params.toList Rows.posMatchesReferenceSpec.vars false W args.toList ds gs before) (hk : Rows.uptoSmall H (ds ++ gs) = true) (hL : laidMetH Tryz.prog laidL W) (hsh : W.ShapedOpen Tryz.prog) :
    Calls Tryz.prog 3 args W fun e W' => ∃ v, e = .returned v ∧ Rows.posMatchesReferenceSpec.post enc Tryz.prog Tryz.f3 false true false false W args v W' := by
  have hval : ∀ (j : Nat) t v, Tryz.f3.params[j]? = some t → args[j]? = some v → Value.okWide Tryz.prog W .any base t v := hval0
  have hW' := hW
  obtain ⟨p, q, hA0, hV, rfl, hfz, hnd⟩ := hW
  have hA : DataW.TrodAll enc Tryz.prog W 0 (fun _ => true) true Tryz.f3.params.toList args.toList ds p := hA0
  rw [pRefParams] at hA hval
  obtain ⟨v0, v1, v2, d0, d1, d2, p0, p1, p2, rfl, rfl, rfl, h0, h1, h2⟩ := trodAll_three hA
  obtain ⟨rfl, rfl⟩ := trodVars_none hV
  obtain ⟨x0, a0, b0, e0, c0, ca0, cb0, rfl, hI0⟩ := open_raw (hval 0 27 v0 rfl rfl) h0
  obtain ⟨al1, l1, cl1, rfl, hI1⟩ := open_prl (hval 1 28 v1 rfl rfl) h1
  obtain ⟨op2, oq2, rfl, hI2, hJ2⟩ := open_pos2 (hval 2 33 v2 rfl rfl) h2
  have hLB := env_of_laid hL hsh
  clear hA0 hval0
  simp only [List.append_nil] at hW' hk
  have hsmall : op2.p.cells.length + op2.p.h0.length + op2.p.h1.length ≤ 17592186044000 := by
    obtain ⟨fuel, hf⟩ := h2
    have hcl : (Value.agg (op2.enc ++ oq2.enc).toArray).cells.toList = op2.enc ++ oq2.enc := by simp [Value.cells]
    rw [hcl] at hf
    have h8 := pos2_bulk hf
    have h9 : Rows.uptoBulkAll [d0, d1, d2] ≤ 1048576 := of_decide_eq_true hk
    have h7 := bulk_part (d := d2) (l := [d0, d1, d2]) (by simp)
    dsimp only at h8
    omega
  have hlt0 : ∀ x ∈ p0, x.block < W.heap.size := fun x hx => hW'.lt x (by simp [hx])
  have hlt1 : ∀ x ∈ p1, x.block < W.heap.size := fun x hx => hW'.lt x (by simp [hx])
  have hlt2 : ∀ x ∈ p2, x.block < W.heap.size := fun x hx => hW'.lt x (by simp [hx])
  have er : Rows.posMatchesReferenceSpec.fn H ([d0, d1, d2] ++ []) = { results := [.lit (.bool true)], args := [d0, d1, d2] } := by simp [Rows.posMatchesReferenceSpec]
  refine (pref_any x0 a0 b0 e0 c0 ca0 cb0 _ l1 op2 oq2 al1 cl1 W hLB (Nat.le_refl _) hI0 hI1 hI2 hJ2 hsmall).mono fun e W' ⟨he, hnx⟩ => ?_
  subst he
  refine ⟨_, rfl, _, _, _, [], p0 ++ (p1 ++ p2), [], hW', ?_, ?_, by rw [er]; rfl, hnx.frame _, fun h => by cases h⟩
  · rw [er]; exact trodAll_mk1 (shut_bool Tryz.underlying4 true)
  · rw [er]; exact trodAll_mk3 (Below.trod laidOutT (by kernel_rfl) (of_decide_eq_true (by kernel_rfl)) h0 hnx hlt0) (Below.trod laidOutT (by kernel_rfl) (of_decide_eq_true (by kernel_rfl)) h1 hnx hlt1) (Below.trod laidOutT (by kernel_rfl) (of_decide_eq_true (by kernel_rfl)) h2 hnx hlt2)

theorem pRef_reads (os : Os) {H : Type} (enc : TypeId × Value → H) : ∃ places, DataW.whole enc Tryz.prog ((World.laidAll Tryz.prog os laidL).forCall (fun _ _ => 0) ⟨#[], #[.agg #[.int .u8 0, .int .u8 0, .int .u8 0, .slice none 0 0, .slice none 0 0, .slice none 0 0, .int .u8 0, .int .u8 0, .int .u8 0, .int .u8 0, .int .u8 0, .int .u8 0], .slice none 0 0, .agg #[.slice none 0 0, .slice none 0 0, .slice none 0 0, .int .i64 0, .int .i64 0, .slice none 0 0, .slice none 0 0, .slice none 0 0, .int .i64 0, .int .i64 0]], []⟩).memory Tryz.f3.params.toList Rows.posMatchesReferenceSpec.vars false (#[.agg #[.int .u8 0, .int .u8 0, .int .u8 0, .slice none 0 0, .slice none 0 0, .slice none 0 0, .int .u8 0, .int .u8 0, .int .u8 0, .int .u8 0, .int .u8 0, .int .u8 0], .slice none 0 0, .agg #[.slice none 0 0, .slice none 0 0, .slice none 0 0, .int .i64 0, .int .i64 0, .slice none 0 0, .slice none 0 0, .slice none 0 0, .int .i64 0, .int .i64 0]] : Array Value).toList 8 =
    some ([.agg [.lit (.int .u8 0), .lit (.int .u8 0), .lit (.int .u8 0), .agg [.nil, .nil], .nil, .agg [.lit (.int .u8 0), .lit (.int .u8 0), .lit (.int .u8 0), .lit (.int .u8 0), .lit (.int .u8 0), .lit (.int .u8 0)]], .nil, .agg [.agg [.nil, .agg [.nil, .nil], .lit (.int .i64 0), .lit (.int .i64 0)], .agg [.nil, .agg [.nil, .nil], .lit (.int .i64 0), .lit (.int .i64 0)]]], [], places) := ⟨[], by kernel_rfl⟩

set_option maxRecDepth 100000 in
theorem pRef_lifted (os : Os) (started : os.Started) (H : Type) (enc : TypeId × Value → H) (F : Stop.Interp) :
    ReturnsInHanded {} Tryz.checked os 3 .any ((Rows.OpenSpec.upto Rows.posMatchesReferenceSpec).preRow enc Tryz.prog Tryz.f3 Rows.posMatchesReferenceUptoRow.domain false Rows.posMatchesReferenceUptoRow.laid) (((Rows.OpenSpec.upto Rows.posMatchesReferenceSpec).at F).post enc Tryz.prog Tryz.f3 false true false false) := by
  have hok : Input.okWideB Tryz.prog ((World.laidAll Tryz.prog os laidL).forCall (fun _ _ => 0) ⟨#[], #[.agg #[.int .u8 0, .int .u8 0, .int .u8 0, .slice none 0 0, .slice none 0 0, .slice none 0 0, .int .u8 0, .int .u8 0, .int .u8 0, .int .u8 0, .int .u8 0, .int .u8 0], .slice none 0 0, .agg #[.slice none 0 0, .slice none 0 0, .slice none 0 0, .int .i64 0, .int .i64 0, .slice none 0 0, .slice none 0 0, .slice none 0 0, .int .i64 0, .int .i64 0]], []⟩) 3 ⟨#[], #[.agg #[.int .u8 0, .int .u8 0, .int .u8 0, .slice none 0 0, .slice none 0 0, .slice none 0 0, .int .u8 0, .int .u8 0, .int .u8 0, .int .u8 0, .int .u8 0, .int .u8 0], .slice none 0 0, .agg #[.slice none 0 0, .slice none 0 0, .slice none 0 0, .int .i64 0, .int .i64 0, .slice none 0 0, .slice none 0 0, .slice none 0 0, .int .i64 0, .int .i64 0]], []⟩ = true := by kernel_rfl
  obtain ⟨places, hx⟩ := pRef_reads os enc
  refine returnsInHanded_of_row (C := Tryz.checked) (s := Rows.OpenSpec.upto Rows.posMatchesReferenceSpec) own started (by kernel_rfl) Tryz.func3
    ⟨World.laidAll Tryz.prog os laidL, fun _ _ => 0, ⟨#[], #[.agg #[.int .u8 0, .int .u8 0, .int .u8 0, .slice none 0 0, .slice none 0 0, .slice none 0 0, .int .u8 0, .int .u8 0, .int .u8 0, .int .u8 0, .int .u8 0, .int .u8 0], .slice none 0 0, .agg #[.slice none 0 0, .slice none 0 0, .slice none 0 0, .int .i64 0, .int .i64 0, .slice none 0 0, .slice none 0 0, .slice none 0 0, .int .i64 0, .int .i64 0]], []⟩, World.laidAll_os _ _ _, World.shaped_of_ZipB (by kernel_rfl) (by kernel_rfl),
      (Input.okWide_of_okWideB (base := 0) hok).1, (Input.okWide_of_okWideB hok).2,
      OpenSpec.preRow_of_cond 8 hx (by kernel_rfl) (fun k hk => by cases hk; kernel_rfl) (by kernel_rfl) (met_all os _), by
        simp only [Assume.holds]
        exact ⟨by simp, by simp, fun _ => Modest.zero, by simp, by simp⟩⟩ ?_
  intro W base args ds gs before hval hW _ hcond _ hL hsh _
  exact pRef_contract H enc W base args ds gs before hval hW (hcond _ rfl) hL hsh

theorem pRef_row_holds : Rows.PosMatchesReferenceUptoSaid :=
  OpenClaim.holds_of_cond 3 Tryz.f3 rfl rfl rfl rfl rfl rfl rfl ⟨rfl, rfl, rfl, rfl, rfl⟩ rfl rfl rfl rfl rfl (by kernel_rfl) Tryz.func3 (by kernel_rfl)
    (of_decide_eq_true (by kernel_rfl)) (by unfold Func.isWrapper; rw [if_neg (of_decide_eq_false (by kernel_rfl))]; exact ⟨rfl, rfl⟩)
    (fun os started H enc _ F => by rw [OpenClaim.pre_eq_preRow]; exact pRef_lifted os started H enc F)

theorem pRef_holds : Rows.PosMatchesReferenceUptoCardSaid :=
  Claim7.holds_tied_plain_at .later [] [.data, .data, .data, .data, .sentinel, .sentinel, .pinned] true Rows.posMatchesReferenceUptoCard.stood.harness true
    pRef_row_holds (fun _ h => by cases h) (by kernel_rfl) (fun _ h => by cases h) posMatchesReferenceUpto_row_tie rfl ⟨rfl, rfl⟩ (by kernel_rfl) rfl
    (fun f fn hf hfn => by
      obtain rfl : f = 3 := Option.some.inj ((show Tryz.prog.funcNamed "skewer/skewerlaw04.PosMatchesReference" = some 3 by kernel_rfl).symm.trans hf) |>.symm
      obtain rfl : fn = Tryz.f3 := (Option.some.inj (Tryz.func3.symm.trans hfn)).symm
      exact ⟨by kernel_rfl, fun j t ht => by
        rw [pRefParams] at ht
        have hm : t ∈ [27, 28, 33] := by simpa using Array.mem_of_getElem? ht
        have hall : ([27, 28, 33].all fun u => !Tryz.prog.wantsStandIn u) = true := by kernel_rfl
        exact (show Tryz.prog.wantsStandIn t = false by simpa using List.all_eq_true.1 hall t hm)⟩)
    (by kernel_rfl)
#print axioms pRef_holds
end Go.Proofs.YtphhkfelpckilaaGreatDoor
