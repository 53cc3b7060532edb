/-
  What of the library's variables the texts of positions ask for; Itoa, Atoi at every argument.
-/
import Derived.Test.YtphhkfelpckilaaGreatDoorBase
import Derived.Test.YtphhkfelpckilaaGreatDoorShelf
import Derived.Lib.SmallJoins
import Derived.Lib.ItoaLen
namespace Go.Proofs.YtphhkfelpckilaaGreatDoor
open Go Go.RowKit Go.Sort Go.Lib

structure EnvIn (W : World) : Prop where
  max : ∃ m : Int, W.cell? ⟨2, 0, none⟩ = some (.int .i64 m)
  syn : ∃ ev, W.cell? ⟨0, 0, none⟩ = some ev ∧ (ev = .nilIface ∨ ∃ te pe, ev = .iface te pe)
  ran : ∃ ev, W.cell? ⟨1, 0, none⟩ = some ev ∧ (ev = .nilIface ∨ ∃ te pe, ev = .iface te pe)
  tab : TabIs Tryz.prog W "internal/strconv.uint64pow10" .u64 pow10Tab

theorem tab_up {W W' : World} {name : String} {k : IntKind} {zs : List Int} (h : TabIs Tryz.prog W name k zs) (hb : Below W.heap.size W W') : TabIs Tryz.prog W' name k zs := by
  unfold TabIs at *
  cases hg : Tryz.prog.globalNamed name with
  | none => unfold World.var? at h; simp [hg] at h
  | some g => exact Go.Joins.var_stays hg h hb (Nat.le_refl _)

theorem EnvIn.up {w w' : World} (h : EnvIn w) (hb : Below w.heap.size w w') : EnvIn w' := by
  obtain ⟨⟨m, h2⟩, ⟨e3, h3, h3'⟩, ⟨e4, h4, h4'⟩, h5⟩ := h
  exact ⟨⟨m, cell_keep hb h2⟩, ⟨e3, cell_keep hb h3, h3'⟩, ⟨e4, cell_keep hb h4, h4'⟩, tab_up h5 hb⟩

theorem below_grow (w : World) (k : Nat) (os : Array Obj) : Below w.heap.size w (grow (w.drewN k) os) :=
  ⟨rfl, rfl, rfl, by simp, fun j hj => heap_grow_old (w.drewN k) os hj⟩

theorem itoa_any (n : Int) (h0 : -9223372036854775808 ≤ n) (h1 : n ≤ 9223372036854775807) (w : World) (hE : EnvIn w) :
    Calls Tryz.prog 76 #[.int .i64 n] w fun e w' => e = .returned (.string ⟨(itoa n).toArray⟩) ∧ Below w.heap.size w w' := by
  refine (Tryz.strconv_Itoa n h0 h1 w hE.tab).mono ?_
  rintro e w' ⟨rfl, k, os, rfl⟩
  exact ⟨rfl, below_grow w k os⟩

/-- The number that Atoi gives, error or not. -/
def atoiS (l : List UInt8) : Int :=
  match atoiAll l with
  | .ok v => v
  | .range => atoiSat l
  | _ => 0
theorem atoi_any (s : ByteArray) (hs : s.size ≤ 281474976710656) (w : World) (hE : EnvIn w) :
    Calls Tryz.prog 78 #[.string s] w fun e w' => ∃ er, e = .returned (.tuple #[.int .i64 (atoiS s.data.toList), er]) ∧ Below w.heap.size w w' := by
  unfold atoiS
  cases h : atoiAll s.data.toList
  case ok v =>
    refine (Tryz.strconv_Atoi_ok s (by omega) v h w).mono ?_
    rintro e w' ⟨rfl, hw⟩
    refine ⟨_, rfl, ?_⟩
    rcases hw with rfl | ⟨t, rfl⟩
    · exact Below.refl _ _
    · exact Go.Joins.below_bytesWorld _ _ _ _ (Nat.le_refl _)
  case range =>
    obtain ⟨ev, h1, h2⟩ := hE.ran
    refine (Tryz.strconv_Atoi_range s hs h ev w h1 h2).mono ?_
    rintro e w' ⟨N, rfl, _, _, hb⟩
    exact ⟨_, rfl, hb⟩
  · obtain ⟨ev, h1, h2⟩ := hE.syn
    refine (Tryz.strconv_Atoi_syntax s hs h ev w h1 h2).mono ?_
    rintro e w' ⟨N, rfl, _, _, hb⟩
    exact ⟨_, rfl, hb⟩
theorem atoiS_bounds (l : List UInt8) : -9223372036854775808 ≤ atoiS l ∧ atoiS l ≤ 9223372036854775807 := by
  unfold atoiS
  cases h : atoiAll l
  case ok v => have := atoiAll_bounds h; exact this
  case range => show _ ≤ atoiSat l ∧ atoiSat l ≤ _; unfold atoiSat; split <;> omega
  · simp
end Go.Proofs.YtphhkfelpckilaaGreatDoor
