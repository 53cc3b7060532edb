/-
 From walks to rows, for the laws of games: the listed variables' cells, a start that meets the condition, arguments that are opened.
-/
import Derived.Test.YtbmcngoeinginaaGreatDoorCPro
import Derived.Test.YtbmcngoeinginaaGreatDoorCWrt
import Derived.Test.YtbmcngoeinginaaGreatDoorRows
import Derived.Test.YtbmcngoeinginaaGreatDoorTie
import Derived.Test.YtbmcngoeinginaaGreatDoorCards
import Derived.ProofKit
import Derived.LaidMore
import Derived.OpenShut
import Derived.Stop.Joined
import Derived.Lib.LaidTab
import Derived.Lib.LaidU8
import Derived.SevenTiedAt
import Derived.HandedShaped
import Derived.Lay
import Derived.LaidOnce
namespace Go.Proofs.YtbmcngoeinginaaGreatDoor
open Go Go.ChangeShapes Go.WideShapes Go.ChangeAt Go.WideMaps Go.WideElems Go.RowKit
def laidL : List (String × DataW Unit) := Rows.gameContentsRow.laid
theorem laidOutT : laidOutB Tryz.prog = true := by kernel_rfl
theorem own : ownKnob Tryz.prog.godebug = none := by kernel_rfl
theorem c3 : Tryz.prog.cellsOf 3 = 1 := by kernel_rfl
theorem c5 : Tryz.prog.cellsOf 5 = 1 := by kernel_rfl
theorem c9 : Tryz.prog.cellsOf 9 = 1 := by kernel_rfl
theorem cSign : Tryz.prog.cellsOf 102 = 2 := by kernel_rfl
theorem gSigns : Tryz.prog.globalNamed "skewer/prog.signs" = some 0 := by kernel_rfl
theorem tSigns : (Tryz.prog.globals[0]?).map (·.type) = some 103 := by kernel_rfl
theorem gSyn : Tryz.prog.globalNamed "strconv.ErrSyntax" = some 4 := by kernel_rfl
theorem gRan : Tryz.prog.globalNamed "strconv.ErrRange" = some 5 := by kernel_rfl
theorem gPow : Tryz.prog.globalNamed "internal/strconv.uint64pow10" = some 3 := by kernel_rfl
theorem met_all (os : Os) (args : Array Value) : laidMetH Tryz.prog laidL ((World.laidAll Tryz.prog os laidL).forCall (fun _ _ => 0) ⟨#[], args, []⟩).memory := by
 rw [MakeChecks.laidMetH_plain _ _ _ (by kernel_rfl)]
 exact laidMet_laidAll _ (by kernel_rfl) (by kernel_rfl)
set_option maxRecDepth 100000 in
theorem sign_cells {W : World} {fuel : Nat} {cs : List Value} {b : List UInt8} {z : Int} {p : List MemPlace}
   (h : DataW.trod (fun _ => ()) Tryz.prog W 0 (fun _ => true) false fuel 102 cs = some (.agg [.lit (.string b), .lit (.int .i64 z)], p)) : cs = [.string ⟨b.toArray⟩, .int .i64 z] := by
 obtain ⟨ys, m, rfl, hx, hlen, hn, hel⟩ := DataW.trod_struct Tryz.underlying102 h
 have hn2 : ys.length = 2 := hn
 rw [cSign] at hlen
 obtain ⟨x, y, rfl⟩ : ∃ x y, cs = [x, y] := by
   rcases cs with _ | ⟨x, _ | ⟨y, _ | ⟨u, l⟩⟩⟩ <;> simp at hlen
   exact ⟨x, y, rfl⟩
 have f0 : DataW.trod (fun _ => ()) Tryz.prog W 0 (fun _ => true) false m 9 (([x, y].drop 0).take (Tryz.prog.cellsOf 9)) = ys[0]? := hel 0 _ rfl
 have f1 : DataW.trod (fun _ => ()) Tryz.prog W 0 (fun _ => true) false m 3 (([x, y].drop 1).take (Tryz.prog.cellsOf 3)) = ys[1]? := hel 1 _ rfl
 obtain ⟨y0, y1, rfl⟩ : ∃ y0 y1, ys = [y0, y1] := by
   rcases ys with _ | ⟨y0, _ | ⟨y1, _ | ⟨u, l⟩⟩⟩ <;> simp at hn2
   exact ⟨y0, y1, rfl⟩
 have hx1 := congrArg Prod.fst hx
 simp only [DataW.agg.injEq, List.map_cons, List.map_nil, List.cons.injEq, and_true] at hx1
 rw [c9] at f0
 rw [c3] at f1
 simp only [List.drop_zero, List.drop_succ_cons, List.take_succ_cons, List.take_zero, List.getElem?_cons_zero, List.getElem?_cons_succ] at f0 f1
 obtain ⟨s, e0, g0, _⟩ := DataW.trod_string Tryz.underlying9 f0
 obtain ⟨n, e1, g1, _⟩ := DataW.trod_int Tryz.underlying3 f1
 have h0 := hx1.1
 have h1 := hx1.2
 rw [g0] at h0
 rw [g1] at h1
 simp only [DataW.lit.injEq, Lit.string.injEq, Lit.int.injEq, true_and] at h0 h1
 subst h0
 subst h1
 simp at e0 e1
 subst e0
 subst e1
 rfl
def signD (j : Nat) : DataW Unit := .agg [.lit (.string (wordL[j]?.getD [])), .lit (.int .i64 (namesL[j]?.getD 0))]
set_option maxRecDepth 100000 in
theorem signs_of_reads {W : World} (h : Lib.VarReads Tryz.prog W "skewer/prog.signs" Rows.laid_skewer_prog_signs) : SignsIn W := by
 obtain ⟨g, t, cs, fuel, p, hg, ht, hvar, hd⟩ := h
 obtain rfl := Option.some.inj (gSigns.symm.trans hg)
 obtain rfl := Option.some.inj (tSigns.symm.trans ht)
 obtain ⟨xs, m, rfl, hx, hlen, hn, hel⟩ := DataW.trod_array Tryz.underlying103 hd
 have hmap : xs.map (·.1) = (List.range 11).map signD := by
   have := congrArg Prod.fst hx;simp only [Rows.laid_skewer_prog_signs, DataW.agg.injEq] at this;rw [← this]
   rfl
 intro j hj
 have h1 := hel j hj
 rw [cSign] at h1
 have hxi : j < xs.length := by omega
 rw [List.getElem?_eq_getElem hxi] at h1
 have h2 : (xs.map (·.1))[j]? = some (signD j) := by rw [hmap]; simp [hj]
 rw [List.getElem?_map, List.getElem?_eq_getElem hxi] at h2
 simp only [Option.map_some, Option.some.injEq] at h2
 have h3 : DataW.trod (fun _ => ()) Tryz.prog W 0 (fun _ => true) false m 102 ((cs.toList.drop (j * 2)).take 2) = some (.agg [.lit (.string (wordL[j]?.getD [])), .lit (.int .i64 (namesL[j]?.getD 0))], xs[j].2) := by
   rw [h1]
   congr 1
   exact Prod.ext h2 rfl
 have key := sign_cells h3
 have get : ∀ k, k < 2 → cs[j * 2 + k]? = ((cs.toList.drop (j * 2)).take 2)[k]? := fun k hk => by
   rw [List.getElem?_take, if_pos hk, List.getElem?_drop]
   simp
 constructor
 · rw [World.var?_cell gSigns hvar, show j * 2 = j * 2 + 0 from rfl, get 0 (by omega), key]
   rfl
 · rw [World.var?_cell gSigns hvar, get 1 (by omega), key]
   rfl
theorem err_of_reads {W : World} {n : String} {g : Nat} {b : List UInt8} (hg : Tryz.prog.globalNamed n = some g) (ht : (Tryz.prog.globals[g]?).map (·.type) = some 122) (h : Lib.VarReads Tryz.prog W n (.iface "*errors.errorString" (.ptr (.agg [.lit (.string b)])))) :
   ∃ ev, W.cell? ⟨g, 0, none⟩ = some ev ∧ (ev = .nilIface ∨ ∃ te pe, ev = .iface te pe) := by
 obtain ⟨g', t, cs, fuel, p, hg', ht', hvar, hd⟩ := h
 obtain rfl := Option.some.inj (hg.symm.trans hg')
 obtain rfl := Option.some.inj (ht.symm.trans ht')
 obtain ⟨_, u, v, e, _, _⟩ := iface_of_trod Tryz.underlying122 hd
 refine ⟨.iface u v, ?_, .inr ⟨u, v, rfl⟩⟩
 rw [World.var?_cell hg hvar]
 have : cs[0]? = cs.toList[0]? := by simp
 rw [this, e]
 rfl
theorem lib_of_laid {W : World} (h : laidMetH Tryz.prog laidL W) (hsh : W.ShapedOpen Tryz.prog) : LibIn W := by
 rw [MakeChecks.laidMetH_plain _ _ _ (by kernel_rfl)] at h
 have hm : ∀ {n : String} {d : DataW Unit}, (n, d) ∈ laidL → Lib.VarReads Tryz.prog W n d := fun hx => Lib.laidMet.reads h hx
 refine ⟨signs_of_reads (hm (by simp [laidL, Rows.gameContentsRow])), ?_, err_of_reads gSyn (by kernel_rfl) (hm (n := "strconv.ErrSyntax") (d := Rows.laid_strconv_ErrSyntax) (by simp [laidL, Rows.gameContentsRow])), err_of_reads gRan (by kernel_rfl) (hm (n := "strconv.ErrRange") (d := Rows.laid_strconv_ErrRange) (by simp [laidL, Rows.gameContentsRow])), ?_⟩
 · exact Go.Proofs.cell_of_shapedOpen_int (zero := #[.int .i64 0]) (t := 3) hsh (of_decide_eq_true (by kernel_rfl)) (by kernel_rfl) rfl (by kernel_rfl) (by kernel_rfl) Tryz.underlying3
 · obtain ⟨g', t', cs, fuel, p, hg', ht', hvar, hd⟩ := hm (n := "internal/strconv.uint64pow10") (d := Rows.laid_internal_strconv_uint64pow10) (by simp [laidL, Rows.gameContentsRow])
   obtain rfl := Option.some.inj (gPow.symm.trans hg');obtain rfl := Option.some.inj ((show (Tryz.prog.globals[3]?).map (·.type) = some 191 by kernel_rfl).symm.trans ht');unfold Lib.TabIs;rw [hvar, ← Lib.cells_of_tab (k := .u64) (zs := Lib.pow10Tab) Tryz.underlying191 Tryz.underlying175 (by kernel_rfl) (by kernel_rfl) (show DataW.trod (fun _ => ()) Tryz.prog W 0 (fun _ => true) false fuel 191 cs.toList = some (Lib.tabData .u64 Lib.pow10Tab, p) from hd)]
theorem returns_laid {H : Type} {enc : TypeId × Value → H} {a : Assume} {C : Checked} {os : Os} {f : FuncId} {fn : Func} {s : ChangeSpec} {conds : List PathCond} {apart fresh handsOn again : Bool} {X : World → Array Value → Prop}
   (hX : ∀ (w w' : World) (args : Array Value), w.heap = w'.heap → X w args → X w' args)
   (own : ownKnob C.prog.godebug = none) (started : os.Started) (noInit : C.prog.inits.idxOf? f = none) (hfn : C.prog.funcs[f]? = some fn)
   (witness : ∃ (w : World) (tape : Tape) (i : Input), w.os = os ∧ (w.forCall tape i).Shaped C.prog ∧ i.vars = [] ∧ Input.okWide C.prog (w.forCall tape i) .any w.heap.size f i ∧
     ((s.pre enc C.prog fn conds apart (w.forCall tape i).memory i.args ∧ X (w.forCall tape i).memory i.args) ∧ sizedMet enc C.prog fn (OpenSpec.ofChange s) apart (w.forCall tape i).memory i.args) ∧ a.holds C.prog (lone (Frame.enter C.prog f i.args .normal) [] (w.forCall tape i)))
   (contract : ∀ (W : World) (base : Nat) (args : Array Value) (ds gs : List (DataW H)) (before : List MemPlace),
     (∀ (j : Nat) t v, fn.params[j]? = some t → args[j]? = some v → Value.okWide C.prog W .any base t v) →
     DataW.Whole enc C.prog fn.params.toList s.vars apart W args.toList ds gs before →
     (DataW.weightsEach C.prog (fn.params.toList ++ s.plain.varTypes C.prog) (ds ++ gs)).all (· ≤ reachBytes) = true → X W args → W.ShapedOpen C.prog →
     Calls C.prog f args W fun e W' => ∃ v, e = .returned v ∧ s.post enc C.prog fn apart fresh handsOn again W args v W') :
   ReturnsInHanded a C os f .any (fun w args => (s.pre enc C.prog fn conds apart w args ∧ X w args) ∧ sizedMet enc C.prog fn (OpenSpec.ofChange s) apart w args) (s.post enc C.prog fn apart fresh handsOn again) := by
 refine returnsInHanded_of_calls own started noInit witness ?_
 intro w tape i _ hsh _ hok hpre hholds
 obtain ⟨_, _, _, fn', hfn', _, _, _, _, hval⟩ := hok
 have e : fn' = fn := Option.some.inj (hfn'.symm.trans hfn)
 subst e
 obtain ⟨⟨⟨ds, gs, before, hw, hc⟩, hx⟩, hz⟩ := hpre
 have hw' := DataW.Whole.of_heap (w' := w.forCall tape i) (by rfl) hw
 refine (contract (w.forCall tape i) w.heap.size i.args ds gs before hval hw' (hz.weights hw) (hX _ _ _ (by rfl) hx) hsh).mono fun e W' ⟨v, he, hp⟩ => ?_
 subst he
 exact ChangeSpec.post_blind hp
theorem addr_form {W : World} {a : Addr} {v : Value} (h : W.cell? a = some v) : a.spot = none ∧ a.block < W.heap.size := by
 refine ⟨?_, World.block_lt_of_cell? W a h⟩
 unfold World.cell? at h
 split at h
 · split at h
   · cases h
   · rename_i hs; simpa using hs
 · cases h
theorem add_none (b off j : Nat) : (⟨b, off, none⟩ : Addr).add j = ⟨b, off + j, none⟩ := by
 by_cases h : j = 0 <;> simp [Addr.add, h]
theorem bounds_u8 {n : Int} (h : (Lit.int .u8 n).wf = true) : 0 ≤ n ∧ n ≤ 255 := by simpa [Lit.wf, IntKind.min, IntKind.max, IntKind.signed, IntKind.bits] using h
theorem gRes : Tryz.prog.globalNamed "skewer/game.results" = some 1 := by kernel_rfl
theorem tRes : (Tryz.prog.globals[1]?).map (·.type) = some 41 := by kernel_rfl
set_option maxRecDepth 100000 in
theorem res_of_reads {W : World} (h : Lib.VarReads Tryz.prog W "skewer/game.results" Rows.laid_skewer_game_results) : ResIn W := by
 obtain ⟨g, t, cs, fuel, p, hg, ht, hvar, hd⟩ := h
 obtain rfl := Option.some.inj (gRes.symm.trans hg)
 obtain rfl := Option.some.inj (tRes.symm.trans ht)
 obtain ⟨xs, m, rfl, hx, hlen, hn, hel⟩ := DataW.trod_array Tryz.underlying41 hd
 have hmap : xs.map (·.1) = (List.range 4).map fun j => DataW.lit (.string (resW j)) := by
   have := congrArg Prod.fst hx;simp only [Rows.laid_skewer_game_results, DataW.agg.injEq] at this;rw [← this]
   rfl
 intro j hj
 have h1 := hel j hj
 rw [c9, Nat.mul_one] at h1
 have hxi : j < xs.length := by omega
 rw [List.getElem?_eq_getElem hxi] at h1
 have h2 : (xs.map (·.1))[j]? = some (DataW.lit (.string (resW j))) := by rw [hmap]; simp [hj]
 rw [List.getElem?_map, List.getElem?_eq_getElem hxi] at h2
 simp only [Option.map_some, Option.some.injEq] at h2
 obtain ⟨s, e0, g0, _⟩ := DataW.trod_string Tryz.underlying9 h1
 rw [g0] at h2
 simp only [DataW.lit.injEq, Lit.string.injEq] at h2
 have hsj : s = ⟨(resW j).toArray⟩ := by rw [← h2]
 have e1 : cs[j]? = some (.string s) := by
   have := congrArg (·[0]?) e0
   simpa [List.getElem?_take, List.getElem?_drop] using this
 rw [World.var?_cell gRes hvar, e1, hsj]
theorem env_of_laid {W : World} (h : laidMetH Tryz.prog laidL W) (hsh : W.ShapedOpen Tryz.prog) : LibIn W ∧ ResIn W := by
 refine ⟨lib_of_laid h hsh, ?_⟩
 rw [MakeChecks.laidMetH_plain _ _ _ (by kernel_rfl)] at h
 exact res_of_reads (Lib.laidMet.reads h (by simp [laidL, Rows.gameContentsRow]))
theorem bounds_u16 {n : Int} (h : (Lit.int .u16 n).wf = true) : 0 ≤ n ∧ n ≤ 65535 := by simpa [Lit.wf, IntKind.min, IntKind.max, IntKind.signed, IntKind.bits] using h
set_option maxRecDepth 100000 in
theorem open_two_ {H : Type} {enc : TypeId × Value → H} {W : World} {b0 base : Nat} {sp : Nat → Bool} {held : Bool} {r : Reach} {v : Value} {d : DataW H} {p : List MemPlace} {t e : TypeId} {k : IntKind}
   (ht : Tryz.prog.underlying t = some (.array 2 e)) (he : Tryz.prog.underlying e = some (.int k)) (hc : Tryz.prog.cellsOf t = 2) (hce : Tryz.prog.cellsOf e = 1)
   (hv : Value.okWide Tryz.prog W r b0 t v) (h : DataW.Trod enc Tryz.prog W base sp held t v d p) :
   ∃ a0 a1 : Int, v = .agg #[.int k a0, .int k a1] ∧ (Lit.int k a0).wf = true ∧ (Lit.int k a1).wf = true := by
 obtain ⟨cs, rfl, hsz⟩ : ∃ cs, v = .agg cs ∧ cs.size = Tryz.prog.cellsOf t := by
   simp only [Value.okWide, ht] at hv;obtain ⟨cs, h1, h2, _⟩ := hv;exact ⟨cs, h1, h2⟩
 rw [hc] at hsz
 obtain ⟨x, y, rfl⟩ : ∃ x y, cs = #[x, y] := by
   obtain ⟨l⟩ := cs
   rcases l with _ | ⟨x, _ | ⟨y, _ | ⟨u, l⟩⟩⟩ <;> simp at hsz
   exact ⟨x, y, rfl⟩
 obtain ⟨fuel, hf⟩ := h
 obtain ⟨ys, m, rfl, _, _, hyl, hel⟩ := DataW.trod_array ht hf
 have hcl : (Value.agg #[x, y]).cells.toList = [x, y] := rfl
 rw [hcl, hce] at hel
 have hl3 : ys.length = 2 := hyl
 have f0 := hel 0 (by omega)
 have f1 := hel 1 (by omega)
 rw [List.getElem?_eq_getElem (by omega)] at f0 f1
 simp only [Nat.zero_mul, Nat.one_mul, List.drop_zero, List.drop_succ_cons, List.take_succ_cons, List.take_zero] at f0 f1
 obtain ⟨n0, e0, _, g0⟩ := DataW.trod_int he f0
 obtain ⟨n1, e1, _, g1⟩ := DataW.trod_int he f1
 obtain rfl : x = .int k n0 := by simpa using e0
 obtain rfl : y = .int k n1 := by simpa using e1
 exact ⟨n0, n1, rfl, g0, g1⟩
end Go.Proofs.YtbmcngoeinginaaGreatDoor
