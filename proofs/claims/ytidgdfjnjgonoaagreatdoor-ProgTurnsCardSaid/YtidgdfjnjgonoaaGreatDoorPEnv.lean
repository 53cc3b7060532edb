/-
  What of the library's variables the reading of texts asks for; written at every number; Atoi at every string.
-/
import Derived.Test.YtidgdfjnjgonoaaGreatDoorPWritten
import Derived.Lib.SmallJoins
import Derived.Lib.ItoaLen
namespace Go.Proofs.YtidgdfjnjgonoaaGreatDoor
open Go Go.RowKit Go.Sort Go.Lib

structure LibIn (W : World) : Prop where
  signs : SignsIn W
  max : ∃ m : Int, W.cell? ⟨1, 0, none⟩ = some (.int .i64 m)
  syn : ∃ ev, W.cell? ⟨2, 0, none⟩ = some ev ∧ (ev = .nilIface ∨ ∃ te pe, ev = .iface te pe)
  ran : ∃ ev, W.cell? ⟨3, 0, none⟩ = some ev ∧ (ev = .nilIface ∨ ∃ te pe, ev = .iface te pe)
  tab : TabIs Tryz.prog W "internal/strconv.uint64pow10" .u64 pow10Tab

theorem tab_up {W W' : World} {name : String} {k : IntKind} {zs : List Int} (h : TabIs Tryz.prog W name k zs) (hb : Below W.heap.size W W') : TabIs Tryz.prog W' name k zs := by
  unfold TabIs at *
  cases hg : Tryz.prog.globalNamed name with
  | none => unfold World.var? at h; simp [hg] at h
  | some g => exact Go.Joins.var_stays hg h hb (Nat.le_refl _)

theorem LibIn.up {w w' : World} (h : LibIn w) (hb : Below w.heap.size w w') : LibIn w' := by
  obtain ⟨h1, ⟨m, h2⟩, ⟨e3, h3, h3'⟩, ⟨e4, h4, h4'⟩, h5⟩ := h
  exact ⟨h1.up hb, ⟨m, cell_keep hb h2⟩, ⟨e3, cell_keep hb h3, h3'⟩, ⟨e4, cell_keep hb h4, h4'⟩, tab_up h5 hb⟩

theorem below_grow (w : World) (k : Nat) (os : Array Obj) : Below w.heap.size w (grow (w.drewN k) os) :=
  ⟨rfl, rfl, rfl, by simp, fun j hj => heap_grow_old (w.drewN k) os hj⟩

/-- The number that Atoi gives, error or not. -/
def numS (l : List UInt8) : Int :=
  match atoiAll l with
  | .ok v => v
  | .range => atoiSat l
  | _ => 0

theorem atoi_any (s : ByteArray) (hs : s.size ≤ 281474976710656) (w : World) (hL : LibIn w) :
    Calls Tryz.prog 55 #[.string s] w fun e w' => ∃ er, e = .returned (.tuple #[.int .i64 (numS s.data.toList), er]) ∧ Below w.heap.size w w' := by
  unfold numS
  cases h : atoiAll s.data.toList
  case ok v =>
    refine (Tryz.strconv_Atoi_ok s (by omega) v h w).mono ?_
    rintro e w' ⟨rfl, hw⟩
    refine ⟨_, rfl, ?_⟩
    rcases hw with rfl | ⟨t, rfl⟩
    · exact Below.refl _ _
    · exact Go.Joins.below_bytesWorld _ _ _ _ (Nat.le_refl _)
  case range =>
    obtain ⟨ev, h1, h2⟩ := hL.ran
    refine (Tryz.strconv_Atoi_range s hs h ev w h1 h2).mono ?_
    rintro e w' ⟨N, rfl, _, _, hb⟩
    exact ⟨_, rfl, hb⟩
  · obtain ⟨ev, h1, h2⟩ := hL.syn
    refine (Tryz.strconv_Atoi_syntax s hs h ev w h1 h2).mono ?_
    rintro e w' ⟨N, rfl, _, _, hb⟩
    exact ⟨_, rfl, hb⟩

theorem numS_bounds (l : List UInt8) : -9223372036854775808 ≤ numS l ∧ numS l ≤ 9223372036854775807 := by
  unfold numS
  cases h : atoiAll l
  case ok v => have := atoiAll_bounds h; exact this
  case range => show _ ≤ atoiSat l ∧ atoiSat l ≤ _; unfold atoiSat; split <;> omega
  · simp

set_option maxRecDepth 100000 in
theorem written_gen (op : Nat) (n : Int) (w : World) (h11 : op < 11) (h0 : -9223372036854775808 ≤ n) (h1 : n ≤ 9223372036854775807) (hL : LibIn w) :
    Calls Tryz.prog 38 #[.agg #[.int .i64 op, .int .i64 n]] w fun e w' => e = .returned (.string ⟨(writtenS ((op : Int), n)).toArray⟩) ∧ Below w.heap.size w w' := by
  obtain ⟨hw, hm⟩ := hL.signs op h11
  have h11' : (op : Int) < 11 := by omega
  have h0b : (0 : Nat) < w.heap.size := World.block_lt_of_cell? w _ hm
  have hval : writtenS ((op : Int), n) = wordL[op]?.getD [] ++ if nameS op = 0 then [] else itoa n := by
    unfold writtenS
    rw [Int.toNat_natCast]
  rw [hval]
  unfold wordS at hw
  have hwl : (wordL[op]?.getD []).length ≤ 6 := word_len op
  have hdl : (itoa n).length ≤ 21 := itoa_length_le n h0 h1
  have hsum : ¬ 9223372036854775807 < (wordL[op]?.getD []).length + (itoa n).length := by omega
  generalize wordL[op]?.getD [] = wd at hw hwl hsum ⊢
  generalize nameS op = m at hm ⊢
  clear hval
  have hit := fun W hT => Tryz.strconv_Itoa n h0 h1 W hT
  have HIT := Lib.hid hit
  have HLL := Lib.hid hL
  clear hit h0 h1 hL
  by_cases h0 : m = 0
  · have t1 : (m == 0) = true := by simpa using h0
    have t2 : decide (m = 0) = true := by simpa using h0
    have H0 := Lib.hid h0
    clear h0
    go_enter Tryz.func38, Tryz.ntmps38
    go_wp2
    go_ret
    first | exact ⟨rfl, by (repeat (first | exact Below.refl _ _ | assumption | refine below_alloc ?_ _ | refine Below.drew ?_ | refine below_drewN_ ?_ _ | refine below_step ?_ (by assumption)))⟩ | exact ⟨by rw [if_pos H0.out, List.append_nil]; rfl, by (repeat (first | exact Below.refl _ _ | assumption | refine below_alloc ?_ _ | refine Below.drew ?_ | refine below_drewN_ ?_ _ | refine below_step ?_ (by assumption)))⟩
  · have t1 : (m == 0) = false := by simpa using h0
    have t2 : decide (m = 0) = false := by simpa using h0
    have H0 := Lib.hid h0
    clear h0
    go_enter Tryz.func38, Tryz.ntmps38
    go_wp2_with fail
    refine (HIT.out _ (tab_up HLL.out.tab (by (repeat (first | exact Below.refl _ _ | assumption | refine below_alloc ?_ _ | refine Below.drew ?_ | refine below_drewN_ ?_ _ | refine below_step ?_ (by assumption)))))).mono ?_
    rintro e w' ⟨rfl, k, os, rfl⟩
    have hbg : Below w.heap.size w (grow ((w.alloc (.cells #[.int .i64 op, .int .i64 n] 41)).drewN k) os) := below_step (below_alloc (Below.refl _ _) _) (below_grow _ k os)
    generalize grow ((w.alloc (.cells #[.int .i64 op, .int .i64 n] 41)).drewN k) os = w7 at *
    go_wp2
    go_ret
    exact ⟨by rw [← app_str]; rfl, by (repeat (first | exact Below.refl _ _ | assumption | refine below_alloc ?_ _ | refine Below.drew ?_ | refine below_drewN_ ?_ _ | refine below_step ?_ (by assumption)))⟩
end Go.Proofs.YtidgdfjnjgonoaaGreatDoor
