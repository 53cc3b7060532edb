/-
  From walks to rows, for the laws of positions: the listed variables' cells, a start that meets the condition, positions that are opened.
-/
import Derived.Test.YtphhkfelpckilaaGreatDoorDWrt
import Derived.Test.YtphhkfelpckilaaGreatDoorDPos
import Derived.Test.YtphhkfelpckilaaGreatDoorRows
import Derived.Test.YtphhkfelpckilaaGreatDoorTie
import Derived.Test.YtphhkfelpckilaaGreatDoorCards
import Derived.ProofKit
import Derived.LaidMore
import Derived.OpenShut
import Derived.Stop.Joined
import Derived.Lib.LaidTab
import Derived.Lib.LaidU8
import Derived.SevenTiedAt
import Derived.HandedShaped
import Derived.Lay
import Derived.LaidOnce
namespace Go.Proofs.YtphhkfelpckilaaGreatDoor
open Go Go.ChangeShapes Go.WideShapes Go.ChangeAt Go.WideMaps Go.WideElems Go.RowKit

def laidL : List (String × DataW Unit) := Rows.posOrdersRow.laid
theorem laidOutT : laidOutB Tryz.prog = true := by kernel_rfl
theorem own : ownKnob Tryz.prog.godebug = none := by kernel_rfl
theorem c3 : Tryz.prog.cellsOf 3 = 1 := by kernel_rfl
theorem c5 : Tryz.prog.cellsOf 5 = 1 := by kernel_rfl
theorem c9 : Tryz.prog.cellsOf 9 = 1 := by kernel_rfl
theorem cInts : Tryz.prog.cellsOf 29 = 1 := by kernel_rfl
theorem cHands : Tryz.prog.cellsOf 30 = 2 := by kernel_rfl
theorem cPos : Tryz.prog.cellsOf 32 = 5 := by kernel_rfl
theorem gSyn : Tryz.prog.globalNamed "strconv.ErrSyntax" = some 0 := by kernel_rfl
theorem gRan : Tryz.prog.globalNamed "strconv.ErrRange" = some 1 := by kernel_rfl
theorem gPow : Tryz.prog.globalNamed "internal/strconv.uint64pow10" = some 3 := by kernel_rfl

theorem met_all (os : Os) (args : Array Value) : laidMetH Tryz.prog laidL ((World.laidAll Tryz.prog os laidL).forCall (fun _ _ => 0) ⟨#[], args, []⟩).memory := by
  rw [MakeChecks.laidMetH_plain _ _ _ (by kernel_rfl)]
  exact laidMet_laidAll _ (by kernel_rfl) (by kernel_rfl)

theorem err_of_reads {W : World} {n : String} {g : Nat} {b : List UInt8} (hg : Tryz.prog.globalNamed n = some g) (ht : (Tryz.prog.globals[g]?).map (·.type) = some 125) (h : Lib.VarReads Tryz.prog W n (.iface "*errors.errorString" (.ptr (.agg [.lit (.string b)])))) :
    ∃ ev, W.cell? ⟨g, 0, none⟩ = some ev ∧ (ev = .nilIface ∨ ∃ te pe, ev = .iface te pe) := by
  obtain ⟨g', t, cs, fuel, p, hg', ht', hvar, hd⟩ := h
  obtain rfl := Option.some.inj (hg.symm.trans hg')
  obtain rfl := Option.some.inj (ht.symm.trans ht')
  obtain ⟨_, u, v, e, _, _⟩ := iface_of_trod Tryz.underlying125 hd
  refine ⟨.iface u v, ?_, .inr ⟨u, v, rfl⟩⟩
  rw [World.var?_cell hg hvar]
  have : cs[0]? = cs.toList[0]? := by simp
  rw [this, e]
  rfl

theorem env_of_laid {W : World} (h : laidMetH Tryz.prog laidL W) (hsh : W.ShapedOpen Tryz.prog) : EnvIn W := by
  rw [MakeChecks.laidMetH_plain _ _ _ (by kernel_rfl)] at h
  have hm : ∀ {n : String} {d : DataW Unit}, (n, d) ∈ laidL → Lib.VarReads Tryz.prog W n d := fun hx => Lib.laidMet.reads h hx
  refine ⟨?_, err_of_reads gSyn (by kernel_rfl) (hm (n := "strconv.ErrSyntax") (d := Rows.laid_strconv_ErrSyntax) (by simp [laidL, Rows.posOrdersRow])), err_of_reads gRan (by kernel_rfl) (hm (n := "strconv.ErrRange") (d := Rows.laid_strconv_ErrRange) (by simp [laidL, Rows.posOrdersRow])), ?_⟩
  · exact Go.Proofs.cell_of_shapedOpen_int (zero := #[.int .i64 0]) (t := 3) hsh (of_decide_eq_true (by kernel_rfl)) (by kernel_rfl) rfl (by kernel_rfl) (by kernel_rfl) Tryz.underlying3
  · obtain ⟨g', t', cs, fuel, p, hg', ht', hvar, hd⟩ := hm (n := "internal/strconv.uint64pow10") (d := Rows.laid_internal_strconv_uint64pow10) (by simp [laidL, Rows.posOrdersRow])
    obtain rfl := Option.some.inj (gPow.symm.trans hg')
    obtain rfl := Option.some.inj ((show (Tryz.prog.globals[3]?).map (·.type) = some 189 by kernel_rfl).symm.trans ht')
    unfold Lib.TabIs
    rw [hvar, ← Lib.cells_of_tab (k := .u64) (zs := Lib.pow10Tab) Tryz.underlying189 Tryz.underlying142 (by kernel_rfl) (by kernel_rfl) (show DataW.trod (fun _ => ()) Tryz.prog W 0 (fun _ => true) false fuel 189 cs.toList = some (Lib.tabData .u64 Lib.pow10Tab, p) from hd)]

/-- What the row asks of a start, and the world's shape. -/
theorem returns_laid {H : Type} {enc : TypeId × Value → H} {a : Assume} {C : Checked} {os : Os} {f : FuncId} {fn : Func} {s : ChangeSpec} {conds : List PathCond} {apart fresh handsOn again : Bool} {X : World → Array Value → Prop}
    (hX : ∀ (w w' : World) (args : Array Value), w.heap = w'.heap → X w args → X w' args)
    (own : ownKnob C.prog.godebug = none) (started : os.Started) (noInit : C.prog.inits.idxOf? f = none) (hfn : C.prog.funcs[f]? = some fn)
    (witness : ∃ (w : World) (tape : Tape) (i : Input), w.os = os ∧ (w.forCall tape i).Shaped C.prog ∧ i.vars = [] ∧ Input.okWide C.prog (w.forCall tape i) .any w.heap.size f i ∧
      ((s.pre enc C.prog fn conds apart (w.forCall tape i).memory i.args ∧ X (w.forCall tape i).memory i.args) ∧ sizedMet enc C.prog fn (OpenSpec.ofChange s) apart (w.forCall tape i).memory i.args) ∧ a.holds C.prog (lone (Frame.enter C.prog f i.args .normal) [] (w.forCall tape i)))
    (contract : ∀ (W : World) (base : Nat) (args : Array Value) (ds gs : List (DataW H)) (before : List MemPlace),
      (∀ (j : Nat) t v, fn.params[j]? = some t → args[j]? = some v → Value.okWide C.prog W .any base t v) →
      DataW.Whole enc C.prog fn.params.toList s.vars apart W args.toList ds gs before →
      (DataW.weightsEach C.prog (fn.params.toList ++ s.plain.varTypes C.prog) (ds ++ gs)).all (· ≤ reachBytes) = true → X W args → W.ShapedOpen C.prog →
      Calls C.prog f args W fun e W' => ∃ v, e = .returned v ∧ s.post enc C.prog fn apart fresh handsOn again W args v W') :
    ReturnsInHanded a C os f .any (fun w args => (s.pre enc C.prog fn conds apart w args ∧ X w args) ∧ sizedMet enc C.prog fn (OpenSpec.ofChange s) apart w args) (s.post enc C.prog fn apart fresh handsOn again) := by
  refine returnsInHanded_of_calls own started noInit witness ?_
  intro w tape i _ hsh _ hok hpre hholds
  obtain ⟨_, _, _, fn', hfn', _, _, _, _, hval⟩ := hok
  have e : fn' = fn := Option.some.inj (hfn'.symm.trans hfn)
  subst e
  obtain ⟨⟨⟨ds, gs, before, hw, hc⟩, hx⟩, hz⟩ := hpre
  have hw' := DataW.Whole.of_heap (w' := w.forCall tape i) (by rfl) hw
  refine (contract (w.forCall tape i) w.heap.size i.args ds gs before hval hw' (hz.weights hw) (hX _ _ _ (by rfl) hx) hsh).mono fun e W' ⟨v, he, hp⟩ => ?_
  subst he
  exact ChangeSpec.post_blind hp

theorem addr_form {W : World} {a : Addr} {v : Value} (h : W.cell? a = some v) : a.spot = none ∧ a.block < W.heap.size := by
  refine ⟨?_, World.block_lt_of_cell? W a h⟩
  unfold World.cell? at h
  split at h
  · split at h
    · cases h
    · rename_i hs; simpa using hs
  · cases h
theorem add_none (b off j : Nat) : (⟨b, off, none⟩ : Addr).add j = ⟨b, off + j, none⟩ := by
  by_cases h : j = 0 <;> simp [Addr.add, h]
theorem bounds_u8 {n : Int} (h : (Lit.int .u8 n).wf = true) : 0 ≤ n ∧ n ≤ 255 := by simpa [Lit.wf, IntKind.min, IntKind.max, IntKind.signed, IntKind.bits] using h
theorem bounds_i64 {n : Int} (h : (Lit.int .i64 n).wf = true) : -9223372036854775808 ≤ n ∧ n ≤ 9223372036854775807 := by simpa [Lit.wf, IntKind.min, IntKind.max, IntKind.signed, IntKind.bits] using h

theorem ints_of_open {W : World} {a : Addr} {zs : List Int} (n : Nat) (hn : n ≤ zs.length) (hc : ∀ c, c < zs.length → W.cell? (a.add c) = some (.int .i64 (zs.getD c 0))) : Ints W.heap.size W (some a) (zs.take n) := by
  by_cases h0 : n = 0
  · subst h0; exact .inl (by simp)
  · obtain ⟨hs, hb⟩ := addr_form (hc 0 (by omega))
    obtain ⟨b, off, sp⟩ := a
    simp only [Addr.add] at hs hb
    subst hs
    refine .inr ⟨b, off, rfl, hb, fun j hj => ?_⟩
    have hj' : j < n ∧ j < zs.length := by simp at hj; omega
    have := hc j hj'.2
    rw [List.getElem?_take, if_pos hj'.1]
    rw [add_none] at this
    simpa [List.getD_eq_getElem?_getD] using this

/-- A cell that is a []int which came in. -/
theorem ints_cell {H : Type} {enc : TypeId × Value → H} {W : World} {m : Nat} {z : Value} {q : DataW H × List MemPlace} (h : DataW.trod enc Tryz.prog W 0 (fun _ => true) true m 29 [z] = some q) :
    ∃ a l c, z = .slice a (List.length l) c ∧ Ints W.heap.size W a l ∧ List.length l ≤ maxLen := by
  rcases open_ints Tryz.underlying29 Tryz.underlying3 c3 h with ⟨h1, _⟩ | ⟨a, len, cap, zs, h1, _, h3, h4, h5, _, h7, _⟩
  · obtain rfl : z = .slice none 0 0 := by simpa using h1
    exact ⟨none, [], 0, rfl, .inl rfl, Nat.zero_le _⟩
  · obtain rfl : z = .slice (some a) len cap := by simpa using h1
    simp only [if_true] at h5
    have hl : (zs.take len).length = len := by simp; omega
    refine ⟨some a, zs.take len, cap, by rw [hl], ints_of_open len (by omega) h7, ?_⟩
    rw [hl]; omega

set_option maxRecDepth 100000 in
/-- Five cells that are a position which came in. -/
theorem pos_cells {H : Type} {enc : TypeId × Value → H} {W : World} {m : Nat} {cs : List Value} {q : DataW H × List MemPlace} (h : DataW.trod enc Tryz.prog W 0 (fun _ => true) true m 32 cs = some q) (hsz : cs.length = 5) :
    ∃ (p : PosS) (a a0 a1 : Option Addr) (c c0 c1 : Nat), cs = [.slice a p.cells.length c, .slice a0 p.h0.length c0, .slice a1 p.h1.length c1, .int .i64 p.rights, .int .i64 p.side] ∧ PosIn W.heap.size W a a0 a1 p ∧ PosFit p := by
  obtain ⟨x, y, z, u, v, rfl⟩ : ∃ x y z u v, cs = [x, y, z, u, v] := by
    rcases cs with _ | ⟨x, _ | ⟨y, _ | ⟨z, _ | ⟨u, _ | ⟨v, _ | ⟨t, l⟩⟩⟩⟩⟩⟩ <;> simp at hsz
    exact ⟨x, y, z, u, v, rfl⟩
  obtain ⟨ys, m, rfl, _, _, hyl, hel⟩ := DataW.trod_struct Tryz.underlying32 h
  have f0 : DataW.trod enc Tryz.prog W 0 (fun _ => true) true m 29 (([x, y, z, u, v].drop 0).take (Tryz.prog.cellsOf 29)) = ys[0]? := hel 0 _ rfl
  have f1 : DataW.trod enc Tryz.prog W 0 (fun _ => true) true m 30 (([x, y, z, u, v].drop 1).take (Tryz.prog.cellsOf 30)) = ys[1]? := hel 1 _ rfl
  have f2 : DataW.trod enc Tryz.prog W 0 (fun _ => true) true m 3 (([x, y, z, u, v].drop 3).take (Tryz.prog.cellsOf 3)) = ys[2]? := hel 2 _ rfl
  have f3 : DataW.trod enc Tryz.prog W 0 (fun _ => true) true m 3 (([x, y, z, u, v].drop 4).take (Tryz.prog.cellsOf 3)) = ys[3]? := hel 3 _ rfl
  have hl4 : ys.length = 4 := hyl
  rw [c3, List.getElem?_eq_getElem (by omega)] at f2 f3
  rw [cHands, List.getElem?_eq_getElem (by omega)] at f1
  rw [cInts, List.getElem?_eq_getElem (by omega)] at f0
  simp only [List.drop_zero, List.drop_succ_cons, List.take_succ_cons, List.take_zero] at f0 f1 f2 f3
  obtain ⟨n2, e2, _, _⟩ := DataW.trod_int Tryz.underlying3 f2
  obtain ⟨n3, e3, _, _⟩ := DataW.trod_int Tryz.underlying3 f3
  obtain rfl : u = .int .i64 n2 := by simpa using e2
  obtain rfl : v = .int .i64 n3 := by simpa using e3
  obtain ⟨a, l, c, rfl, hI, hl⟩ := ints_cell f0
  obtain ⟨zs, m2, rfl, _, _, hzl, hze⟩ := DataW.trod_array Tryz.underlying30 f1
  rw [cInts] at hze
  have g0 := hze 0 (by omega)
  have g1 := hze 1 (by omega)
  rw [List.getElem?_eq_getElem (by omega)] at g0 g1
  simp only [Nat.zero_mul, Nat.one_mul, List.drop_zero, List.drop_succ_cons, List.take_succ_cons, List.take_zero] at g0 g1
  obtain ⟨a0, l0, c0, rfl, hI0, hl0⟩ := ints_cell g0
  obtain ⟨a1, l1, c1, rfl, hI1, hl1⟩ := ints_cell g1
  exact ⟨⟨l, l0, l1, n2, n3⟩, a, a0, a1, c, c0, c1, rfl, ⟨hI, hI0, hI1⟩, ⟨hl, hl0, hl1⟩⟩

set_option maxRecDepth 100000 in
/-- A position that came in by value. -/
theorem open_pos {H : Type} {enc : TypeId × Value → H} {W : World} {b0 : Nat} {r : Reach} {v : Value} {d : DataW H} {p : List MemPlace}
    (hv : Value.okWide Tryz.prog W r b0 32 v) (h : DataW.Trod enc Tryz.prog W 0 (fun _ => true) true 32 v d p) :
    ∃ (q : PosS) (a a0 a1 : Option Addr) (c c0 c1 : Nat), v = PosV a a0 a1 c c0 c1 q ∧ PosIn W.heap.size W a a0 a1 q ∧ PosFit q := by
  obtain ⟨cs, rfl, hsz⟩ := okWide_struct Tryz.underlying32 hv
  rw [cPos] at hsz
  obtain ⟨fuel, hf⟩ := h
  have hcl : (Value.agg cs).cells.toList = cs.toList := rfl
  rw [hcl] at hf
  obtain ⟨q, a, a0, a1, c, c0, c1, e, hI, hF⟩ := pos_cells hf (by simpa using hsz)
  refine ⟨q, a, a0, a1, c, c0, c1, ?_, hI, hF⟩
  unfold PosV
  congr 1
  apply Array.ext'
  simpa using e
end Go.Proofs.YtphhkfelpckilaaGreatDoor
