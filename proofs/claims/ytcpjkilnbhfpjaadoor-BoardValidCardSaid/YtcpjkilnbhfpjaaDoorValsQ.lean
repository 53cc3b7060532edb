/-
  For every Board, every Raw board and every four int16, at whatever place in memory, BoardValid of the landed program returns true, and its arguments read as before. No condition beyond the given row's own.
-/
import Derived.Test.YtcpjkilnbhfpjaaDoorVals0
import Derived.Test.YtcpjkilnbhfpjaaDoorVals1
import Derived.Test.YtcpjkilnbhfpjaaDoorVals2
import Derived.Test.YtcpjkilnbhfpjaaDoorVals3
import Derived.Test.YtcpjkilnbhfpjaaDoorVals4
import Derived.Test.YtcpjkilnbhfpjaaDoorValsO
namespace Go.Proofs.YtcpjkilnbhfpjaaDoor
open Go Go.ChangeShapes Go.WideShapes Go.ChangeAt Go.WideMaps Go.WideElems Go.RowKit

theorem wrap_u16 (a : Int) : ∃ u : Nat, IntKind.u16.wrap a = (u : Int) ∧ u < 65536 := by
  have h : IntKind.u16.wrap a = a % 65536 := by
    unfold IntKind.wrap
    simp [IntKind.signed, IntKind.bits]
  refine ⟨(a % 65536).toNat, ?_, ?_⟩
  · rw [h, Int.toNat_of_nonneg (Int.emod_nonneg _ (by omega))]
  · have := Int.emod_lt_of_pos a (show (0 : Int) < 65536 by omega)
    omega

theorem vals_any (B : Brd) (an at_ : Option Addr) (cn ct : Nat) (xs : Array Value) (x0 x1 x2 : Nat) (nx : Nat → Nat) (hx : RawIn xs x0 x1 x2 nx) (a0 a1 a2 a3 : Int) (b2 : -32768 ≤ a2 ∧ a2 ≤ 32767) (w : World) (hR : RaysIn w) (hH : Held w.heap.size w an at_ B) :
    Calls Tryd.prog 4 #[B.val an cn at_ ct, .agg xs, .agg #[.int .i16 a0, .int .i16 a1, .int .i16 a2, .int .i16 a3]] w fun e w' => e = .returned (.bool true) ∧ Below w.heap.size w w' := by
  by_cases h70 : 70 < B.next.length ∨ 70 < B.turn.length
  · exact vals_many B an at_ cn ct xs a0 a1 a2 a3 w hR hH h70
  obtain ⟨u0, e0, k0⟩ := wrap_u16 a0
  obtain ⟨u1, e1, k1⟩ := wrap_u16 a1
  obtain ⟨u3, e3, k3⟩ := wrap_u16 a3
  have hn : B.next.length ≤ 70 := by omega
  have ht : B.turn.length ≤ 70 := by omega
  have hs : (u1 : Int) % 5 = 0 ∨ (u1 : Int) % 5 = 1 ∨ (u1 : Int) % 5 = 2 ∨ (u1 : Int) % 5 = 3 ∨ (u1 : Int) % 5 = 4 := by omega
  rcases hs with hs | hs | hs | hs | hs
  · exact vals_cells B an at_ cn ct xs x0 x1 x2 nx hx a0 a1 a2 a3 u0 u1 e0 e1 k0 k1 b2.1 b2.2 w hR hH hn ht hs
  · exact vals_row B an at_ cn ct xs x0 x1 x2 nx hx a0 a1 a2 a3 u0 u1 u3 e0 e1 e3 k0 k1 k3 b2.1 b2.2 w hR hH hn ht hs
  · exact vals_turn B an at_ cn ct xs x0 x1 x2 nx hx a0 a1 a2 a3 u0 u1 e0 e1 k0 k1 b2.1 b2.2 w hR hH hn ht hs
  · exact vals_short B an at_ cn ct xs x0 x1 x2 nx hx a0 a1 a2 a3 u0 u1 e0 e1 k0 k1 w hR hH hn ht hs
  · exact vals_cut B an at_ cn ct xs x0 x1 x2 nx hx a0 a1 a2 a3 u0 u1 u3 e0 e1 e3 k0 k1 k3 w hR hH hn ht hs

theorem valsParams : Tryd.f4.params = #[31, 24, 26] := by kernel_rfl

set_option maxRecDepth 100000 in
theorem vals_lifted (os : Os) (started : os.Started) (H : Type) (enc : TypeId × Value → H) :
    ReturnsInHanded {} Tryd.checked os 4 .any (fun w args => (Rows.boardValidSpec.pre enc Tryd.prog Tryd.f4 [] false w args ∧ laidMetH Tryd.prog laidL w) ∧ sizedMet enc Tryd.prog Tryd.f4 (OpenSpec.ofChange Rows.boardValidSpec) false w args)
      (Rows.boardValidSpec.post enc Tryd.prog Tryd.f4 false true false false) := by
  refine returnsInHanded_of_change_and (C := Tryd.checked) (X := fun w _ => laidMetH Tryd.prog laidL w) (fun _ _ _ hh h => h.of_heap hh) own started (by kernel_rfl) Tryd.func4
    (ChangeSpec.witness_shaped (enc := enc) (C := Tryd.checked) (os := os) (X := fun w _ => laidMetH Tryd.prog laidL w) false (World.doorLaid Tryd.prog 22 os) #[.agg #[.int .i64 0, .slice none 0 0, .slice none 0 0], .agg (Array.replicate 35 (.int .u8 0)), .agg (Array.replicate 4 (.int .i16 0))] 8 rfl (World.shaped_of_RefB (by kernel_rfl) (by kernel_rfl)) (by kernel_rfl) (by kernel_rfl) (by kernel_rfl) (door_met os _)) ?_
  intro W base args ds gs before hval0 hW _ _ hL _
  have hval : ∀ (j : Nat) t v, Tryd.f4.params[j]? = some t → args[j]? = some v → Value.okWide Tryd.prog W .any base t v := hval0
  have hW' := hW
  obtain ⟨p, q, hA0, hV, rfl, hfz, hnd⟩ := hW
  have hA : DataW.TrodAll enc Tryd.prog W 0 (fun _ => true) true Tryd.f4.params.toList args.toList ds p := hA0
  rw [valsParams] at hA hval
  obtain ⟨v0, v1, v2, d0, d1, d2, p0, p1, p2, rfl, rfl, rfl, h0, h1, h2⟩ := trodAll_three hA
  obtain ⟨rfl, rfl⟩ := trodVars_none hV
  obtain ⟨B, an, at_, cn, ct, rfl, hH⟩ := open_board (hval 0 31 v0 rfl rfl) h0
  obtain ⟨xs, x0, x1, x2, nx, rfl, hx⟩ := open_raw (hval 1 24 v1 rfl rfl) h1
  obtain ⟨a0, a1, a2, a3, rfl, _, _, b2, _⟩ := open_four (hval 2 26 v2 rfl rfl) h2
  have hR := rays_of_laid hL
  clear hA0 hval0
  simp only [List.append_nil] at hW'
  have hlt : ∀ x ∈ p0 ++ p1 ++ p2, x.block < W.heap.size := fun x hx => by simpa using hW'.lt x hx
  have er : Rows.boardValidSpec.fn H ([d0, d1, d2] ++ []) = { results := [.lit (.bool true)], args := [d0, d1, d2] } := by simp [Rows.boardValidSpec]
  refine (vals_any B an at_ cn ct xs x0 x1 x2 nx hx a0 a1 a2 a3 b2 W hR hH).mono fun e W' ⟨he, hnx⟩ => ?_
  subst he
  refine ⟨_, rfl, _, _, _, [], p0 ++ (p1 ++ p2), [], hW', ?_, ?_, by rw [er]; rfl, hnx.frame _, fun h => by cases h⟩
  · rw [er]; exact trodAll_mk1 (shut_bool Tryd.underlying4 true)
  · rw [er]; exact trodAll_mk3 (Below.trod laidOutT (by kernel_rfl) (of_decide_eq_true (by kernel_rfl)) h0 hnx (fun x hx => hlt x (by simp [hx]))) (Below.trod laidOutT (by kernel_rfl) (of_decide_eq_true (by kernel_rfl)) h1 hnx (fun x hx => hlt x (by simp [hx]))) (Below.trod laidOutT (by kernel_rfl) (of_decide_eq_true (by kernel_rfl)) h2 hnx (fun x hx => hlt x (by simp [hx])))

theorem vals_row_holds : Rows.BoardValidSaid :=
  OpenClaim.holds_of_wide 4 Tryd.f4 rfl rfl rfl rfl rfl rfl rfl ⟨rfl, rfl, rfl, rfl, rfl⟩ rfl rfl rfl rfl rfl (by kernel_rfl) Tryd.func4 (by kernel_rfl)
    (of_decide_eq_true (by kernel_rfl)) (by unfold Func.isWrapper; rw [if_neg (of_decide_eq_false (by kernel_rfl))]; exact ⟨rfl, rfl⟩)
    (fun os started H enc _ => vals_lifted os started H enc)

theorem vals_holds : Rows.BoardValidCardSaid :=
  Claim7.holds_tied_plain_at .later [] [.data] true Rows.boardValidCard.stood.harness false
    vals_row_holds (fun _ h => by cases h) (by kernel_rfl) (fun _ h => by cases h) boardValid_row_tie rfl ⟨rfl, rfl⟩ (by kernel_rfl) rfl
    (fun f fn hf hfn => by
      obtain rfl : f = 4 := Option.some.inj ((show Tryd.prog.funcNamed "skewer/skewerlaw01.BoardValid" = some 4 by kernel_rfl).symm.trans hf) |>.symm
      obtain rfl : fn = Tryd.f4 := (Option.some.inj (Tryd.func4.symm.trans hfn)).symm
      exact ⟨by kernel_rfl, fun j t ht => by
        rw [valsParams] at ht
        have hm : t ∈ [31, 24, 26] := by simpa using Array.mem_of_getElem? ht
        have hall : ([31, 24, 26].all fun u => !Tryd.prog.wantsStandIn u) = true := by kernel_rfl
        exact (show Tryd.prog.wantsStandIn t = false by simpa using List.all_eq_true.1 hall t hm)⟩)
    (by kernel_rfl)
#print axioms vals_holds
end Go.Proofs.YtcpjkilnbhfpjaaDoor
