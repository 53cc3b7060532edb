/-
  The signs of a list, one after the other.
  What of the library's variables the texts of positions ask for; Itoa, Atoi at every argument.
  written and Print of the package pos.
-/
import Derived.Test.YtphhkfelpckilaaGreatDoorDSign
import Derived.Test.YtphhkfelpckilaaGreatDoorShelf
import Derived.Lib.Builder
import Derived.Test.YtphhkfelpckilaaGreatDoorBase
import Derived.Lib.SmallJoins
import Derived.Lib.ItoaLen
import Derived.Test.YtphhkfelpckilaaGreatDoorDPos
import Derived.Test.YtphhkfelpckilaaGreatDoorQTail
namespace Go.Proofs.YtphhkfelpckilaaGreatDoor
open Go Go.RowKit

def signsS (s : List UInt8) (l : List Int) : List UInt8 := (l.map (signS s)).flatten
theorem signsS_succ (s : List UInt8) (l : List Int) (q : Nat) (h : q < l.length) : signsS s (l.take (q + 1)) = signsS s (l.take q) ++ signS s (l[q]?.getD 0) := by
  have e : l.take (q + 1) = l.take q ++ [l[q]?.getD 0] := by rw [List.take_add_one]; simp [h]
  unfold signsS
  rw [e, List.map_append, List.flatten_append]
  simp
theorem signS_len (s : List UInt8) (n : Int) : (signS s n).length ≤ 1 := by unfold signS; split <;> simp
theorem signsS_len (s : List UInt8) (l : List Int) : (signsS s l).length ≤ l.length := by
  unfold signsS
  induction l with
  | nil => simp
  | cons a l ih => have := signS_len s a; simp only [List.map_cons, List.flatten_cons, List.length_append, List.length_cons]; omega

theorem writeString_any (B b : Nat) (L x : List UInt8) (w : World) (h : Lib.IsBuilder 145 5 B b (Lib.byteCells L) w) (hlen : L.length + x.length ≤ 140737488355328) (hB : B ≤ w.heap.size) :
    Calls Tryz.prog 93 #[.pointer (some ⟨b, 0, none⟩), .string ⟨x.toArray⟩] w fun e w' => (∃ v, e = .returned v) ∧ Lib.IsBuilder 145 5 B b (Lib.byteCells (L ++ x)) w' ∧ Below B w w' := by
  have hW := Any.Builder_WriteString (P := Tryz.prog) (ρ := Tryz.lays156_ren) { Tryz.lays156 with } Tryz.Builder_Extra_156 B b (Lib.byteCells L) ⟨x.toArray⟩ w h (by simp [Lib.byteCells, ByteArray.size]; omega) hB
  refine Calls.mono hW ?_
  rintro e w' ⟨rfl, h1, h2⟩
  refine ⟨⟨_, rfl⟩, .inr ?_, h2⟩
  have e : Lib.byteCells (L ++ x) = Lib.byteCells L ++ Lib.strCells ⟨x.toArray⟩ := by simp [Lib.byteCells, Lib.strCells]
  rw [e]
  exact h1

set_option maxRecDepth 100000 in
set_option maxHeartbeats 2000000 in
theorem signed_any (s : List UInt8) (l : List Int) (a : Option Addr) (ct N : Nat) (w : World) (hs : s.length ≤ 100) (hl : l.length ≤ 1000000) (hN : N ≤ w.heap.size) (hI : Ints N w a l) :
    Calls Tryz.prog 74 #[.slice a l.length ct, .func (.func 75) #[.string ⟨s.toArray⟩] #[]] w fun e w' => e = .returned (.string ⟨(signsS s l).toArray⟩) ∧ Below w.heap.size w w' := by
  have HI := Lib.hid hI
  clear hI
  obtain ⟨h, eh⟩ : ∃ h, h = w.heap.size := ⟨_, rfl⟩
  go_enter Tryz.func74, Tryz.ntmps74
  go_upto_region 2 with (fail)
  have hb0 : Below w.heap.size w (w.alloc (.cells #[.pointer none, .slice none 0 0] 145)) := below_alloc (Below.refl _ _) _
  have hf := Lib.fresh_isBuilder 145 5 w
  generalize w.alloc (.cells #[.pointer none, .slice none 0 0] 145) = w1 at *
  rw [← eh] at hb0 hf hN ⊢
  have HF := Lib.hid (show Lib.IsBuilder 145 5 h h (Lib.byteCells (signsS s (l.take 0))) w1 from hf)
  have EH := Lib.hid eh
  clear hf eh
  go_wp2
  go_loopw [10] (fun i wr => ∃ q : Nat, q ≤ l.length ∧ i = .int .i64 q ∧ Hid (Lib.IsBuilder 145 5 h h (Lib.byteCells (signsS s (l.take q))) wr) ∧ Below h w wr)
    (fun i _ => l.length - (intOf i).toNat)
  case atStart => exact ⟨0, Nat.zero_le _, rfl, HF, hb0⟩
  case round =>
    clear hb0 HF
    obtain ⟨q, hq, rfl, hf, hb⟩ := hrel
    have hsz := hb.size
    have hh : h ≤ wr.heap.size := by have := EH.out; omega
    by_cases hlt : q < l.length
    · obtain ⟨b, off, hab, hbN, hc⟩ := (HI.out.below (hb.mono hN)).at_ hlt
      subst hab
      have hsuc := signsS_succ s l q hlt
      have hlen := signsS_len s (l.take q)
      rw [List.length_take] at hlen
      have hx1 := signS_len s (l[q]?.getD 0)
      generalize l[q]?.getD 0 = x at *
      generalize signsS s (l.take q) = L at *
      have HS := Lib.hid hsuc
      have hsg := Lib.hid (sign_any s x wr hs)
      have hws := Lib.hid (writeString_any h h L (signS s x) wr hf.out (by omega) hh)
      clear hsuc hlen hx1 hf
      go_wp2_with (first | (go_at_call 75; refine hsg.out.mono ?_; rintro e w2 ⟨rfl, rfl⟩) | (go_at_call 93; refine hws.out.mono ?_; rintro e w3 ⟨⟨v, rfl⟩, hf3, hb3⟩))
      have HF3 := Lib.hid hf3
      clear hf3
      go_roundw
      case rel => exact ⟨q + 1, by omega, by simp, Lib.hid (by rw [HS.out]; exact HF3.out), hb.trans hb3⟩
      case measure => simp [intOf]; omega
    · obtain rfl : q = l.length := by omega
      rw [List.take_length] at hf
      have hst := Lib.hid (Tryz.Builder_String_any h h (signsS s l) wr hf.out hh)
      clear hf
      go_wp2_with (go_at_call 94; refine hst.out.mono ?_; rintro e w3 ⟨rfl, hb3⟩)
      go_ret
      exact ⟨rfl, by rw [← EH.out]; exact hb.trans hb3⟩
end Go.Proofs.YtphhkfelpckilaaGreatDoor

namespace Go.Proofs.YtphhkfelpckilaaGreatDoor
open Go Go.RowKit Go.Sort Go.Lib

structure EnvIn (W : World) : Prop where
  max : ∃ m : Int, W.cell? ⟨2, 0, none⟩ = some (.int .i64 m)
  syn : ∃ ev, W.cell? ⟨0, 0, none⟩ = some ev ∧ (ev = .nilIface ∨ ∃ te pe, ev = .iface te pe)
  ran : ∃ ev, W.cell? ⟨1, 0, none⟩ = some ev ∧ (ev = .nilIface ∨ ∃ te pe, ev = .iface te pe)
  tab : TabIs Tryz.prog W "internal/strconv.uint64pow10" .u64 pow10Tab

theorem tab_up {W W' : World} {name : String} {k : IntKind} {zs : List Int} (h : TabIs Tryz.prog W name k zs) (hb : Below W.heap.size W W') : TabIs Tryz.prog W' name k zs := by
  unfold TabIs at *
  cases hg : Tryz.prog.globalNamed name with
  | none => unfold World.var? at h; simp [hg] at h
  | some g => exact Go.Joins.var_stays hg h hb (Nat.le_refl _)

theorem EnvIn.up {w w' : World} (h : EnvIn w) (hb : Below w.heap.size w w') : EnvIn w' := by
  obtain ⟨⟨m, h2⟩, ⟨e3, h3, h3'⟩, ⟨e4, h4, h4'⟩, h5⟩ := h
  exact ⟨⟨m, cell_keep hb h2⟩, ⟨e3, cell_keep hb h3, h3'⟩, ⟨e4, cell_keep hb h4, h4'⟩, tab_up h5 hb⟩

theorem below_grow (w : World) (k : Nat) (os : Array Obj) : Below w.heap.size w (grow (w.drewN k) os) :=
  ⟨rfl, rfl, rfl, by simp, fun j hj => heap_grow_old (w.drewN k) os hj⟩

theorem itoa_any (n : Int) (h0 : -9223372036854775808 ≤ n) (h1 : n ≤ 9223372036854775807) (w : World) (hE : EnvIn w) :
    Calls Tryz.prog 76 #[.int .i64 n] w fun e w' => e = .returned (.string ⟨(itoa n).toArray⟩) ∧ Below w.heap.size w w' := by
  refine (Tryz.strconv_Itoa n h0 h1 w hE.tab).mono ?_
  rintro e w' ⟨rfl, k, os, rfl⟩
  exact ⟨rfl, below_grow w k os⟩

/-- The number that Atoi gives, error or not. -/
def atoiS (l : List UInt8) : Int :=
  match atoiAll l with
  | .ok v => v
  | .range => atoiSat l
  | _ => 0
theorem atoi_any (s : ByteArray) (hs : s.size ≤ 281474976710656) (w : World) (hE : EnvIn w) :
    Calls Tryz.prog 78 #[.string s] w fun e w' => ∃ er, e = .returned (.tuple #[.int .i64 (atoiS s.data.toList), er]) ∧ Below w.heap.size w w' := by
  unfold atoiS
  cases h : atoiAll s.data.toList
  case ok v =>
    refine (Tryz.strconv_Atoi_ok s (by omega) v h w).mono ?_
    rintro e w' ⟨rfl, hw⟩
    refine ⟨_, rfl, ?_⟩
    rcases hw with rfl | ⟨t, rfl⟩
    · exact Below.refl _ _
    · exact Go.Joins.below_bytesWorld _ _ _ _ (Nat.le_refl _)
  case range =>
    obtain ⟨ev, h1, h2⟩ := hE.ran
    refine (Tryz.strconv_Atoi_range s hs h ev w h1 h2).mono ?_
    rintro e w' ⟨N, rfl, _, _, hb⟩
    exact ⟨_, rfl, hb⟩
  · obtain ⟨ev, h1, h2⟩ := hE.syn
    refine (Tryz.strconv_Atoi_syntax s hs h ev w h1 h2).mono ?_
    rintro e w' ⟨N, rfl, _, _, hb⟩
    exact ⟨_, rfl, hb⟩
theorem atoiS_bounds (l : List UInt8) : -9223372036854775808 ≤ atoiS l ∧ atoiS l ≤ 9223372036854775807 := by
  unfold atoiS
  cases h : atoiAll l
  case ok v => have := atoiAll_bounds h; exact this
  case range => show _ ≤ atoiSat l ∧ atoiSat l ≤ _; unfold atoiSat; split <;> omega
  · simp
end Go.Proofs.YtphhkfelpckilaaGreatDoor

namespace Go.Proofs.YtphhkfelpckilaaGreatDoor
open Go Go.RowKit

def contS : List UInt8 := [46, 65, 97, 66, 98, 67, 99, 68, 100, 69, 101, 70, 102]
def digS : List UInt8 := [48, 49, 50, 51, 52, 53, 54, 55, 56]

set_option maxRecDepth 100000 in
set_option maxHeartbeats 2000000 in
theorem written_by (p : PosS) (b b0 b1 : Option Addr) (c c0 c1 : Nat) (w : World) (y0 y1 y2 z0 z1 : List UInt8) (hJ : (Lib.join [y0, y1, y2, z0, z1] [47]).length ≤ 140737488355328)
    (h0 : ∀ W, Below w.heap.size w W → Calls Tryz.prog 74 #[.slice b p.cells.length c, .func (.func 75) #[.string ⟨contS.toArray⟩] #[]] W fun e w' => e = .returned (.string ⟨y0.toArray⟩) ∧ Below W.heap.size W w')
    (h1 : ∀ W, Below w.heap.size w W → Calls Tryz.prog 74 #[.slice b0 p.h0.length c0, .func (.func 75) #[.string ⟨digS.toArray⟩] #[]] W fun e w' => e = .returned (.string ⟨y1.toArray⟩) ∧ Below W.heap.size W w')
    (h2 : ∀ W, Below w.heap.size w W → Calls Tryz.prog 74 #[.slice b1 p.h1.length c1, .func (.func 75) #[.string ⟨digS.toArray⟩] #[]] W fun e w' => e = .returned (.string ⟨y2.toArray⟩) ∧ Below W.heap.size W w')
    (h3 : ∀ W, Below w.heap.size w W → Calls Tryz.prog 76 #[.int .i64 p.rights] W fun e w' => e = .returned (.string ⟨z0.toArray⟩) ∧ Below W.heap.size W w')
    (h4 : ∀ W, Below w.heap.size w W → Calls Tryz.prog 76 #[.int .i64 p.side] W fun e w' => e = .returned (.string ⟨z1.toArray⟩) ∧ Below W.heap.size W w') :
    Calls Tryz.prog 58 #[PosV b b0 b1 c c0 c1 p] w fun e w' => e = .returned (.string ⟨(Lib.join [y0, y1, y2, z0, z1] [47]).toArray⟩) ∧ Below w.heap.size w w' := by
  have H0 := Lib.hid h0
  have H1 := Lib.hid h1
  have H2 := Lib.hid h2
  have H3 := Lib.hid h3
  have H4 := Lib.hid h4
  clear h0 h1 h2 h3 h4
  unfold PosV
  go_enter Tryz.func58, Tryz.ntmps58
  go_upto_region 1 with (fail)
  have hb0 : Below w.heap.size w (w.alloc (.cells #[.slice b p.cells.length c, .slice b0 p.h0.length c0, .slice b1 p.h1.length c1, .int .i64 p.rights, .int .i64 p.side] 32)) := below_alloc (Below.refl _ _) _
  have P0 : ∀ j v, (#[.slice b p.cells.length c, .slice b0 p.h0.length c0, .slice b1 p.h1.length c1, .int .i64 p.rights, .int .i64 p.side] : Array Value)[j]? = some v → (w.alloc (.cells #[.slice b p.cells.length c, .slice b0 p.h0.length c0, .slice b1 p.h1.length c1, .int .i64 p.rights, .int .i64 p.side] 32)).cell? ⟨w.heap.size, j, none⟩ = some v := fun j v h => cell_new_at _ _ _ _ _ _ rfl h
  generalize w.alloc (.cells #[.slice b p.cells.length c, .slice b0 p.h0.length c0, .slice b1 p.h1.length c1, .int .i64 p.rights, .int .i64 p.side] 32) = w0 at *
  have hB5 : Box5 w w.heap.size (.slice b p.cells.length c) (.slice b0 p.h0.length c0) (.slice b1 p.h1.length c1) (.int .i64 p.rights) (.int .i64 p.side) w0 := ⟨hb0, P0 0 _ rfl, P0 1 _ rfl, P0 2 _ rfl, P0 3 _ rfl, P0 4 _ rfl⟩
  clear P0
  have hlt := World.block_lt_of_cell? _ _ hB5.c0
  refine wp_region_quiet_tail 20 (Box5 w w.heap.size (.slice b p.cells.length c) (.slice b0 p.h0.length c0) (.slice b1 p.h1.length c1) (.int .i64 p.rights) (.int .i64 p.side)) hB5.drew (by kernel_rfl) (by kernel_rfl) ?_
  simp only [List.take_succ_cons, List.take_zero, List.drop_succ_cons, List.drop_zero]
  iterate 3
    refine wpQuiet_val (v := ?_) (by rfl) ?_ ?_
    rotate_left
    · ((intro W hW; (try cases hW); go_simp); try with_reducible rfl)
    (try simp only [Act.put, List.setIfInBounds_toArray, List.set_cons_zero, List.set_cons_succ])
  refine wpQuiet_val (v := .string ⟨y0.toArray⟩) (by rfl) (fun W hW => ?_) ?_
  · go_simp
    exact (H0.out W hW.b).mono fun e w' ⟨he, hb⟩ => ⟨he, hW.up hb⟩
  (try simp only [Act.put, List.setIfInBounds_toArray, List.set_cons_zero, List.set_cons_succ])
  iterate 4
    refine wpQuiet_val (v := ?_) (by rfl) ?_ ?_
    rotate_left
    · ((intro W hW; (try cases hW); go_simp); try with_reducible rfl)
    (try simp only [Act.put, List.setIfInBounds_toArray, List.set_cons_zero, List.set_cons_succ])
  refine wpQuiet_val (v := .string ⟨y1.toArray⟩) (by rfl) (fun W hW => ?_) ?_
  · go_simp
    exact (H1.out W hW.b).mono fun e w' ⟨he, hb⟩ => ⟨he, hW.up hb⟩
  (try simp only [Act.put, List.setIfInBounds_toArray, List.set_cons_zero, List.set_cons_succ])
  iterate 4
    refine wpQuiet_val (v := ?_) (by rfl) ?_ ?_
    rotate_left
    · ((intro W hW; (try cases hW); go_simp); try with_reducible rfl)
    (try simp only [Act.put, List.setIfInBounds_toArray, List.set_cons_zero, List.set_cons_succ])
  refine wpQuiet_val (v := .string ⟨y2.toArray⟩) (by rfl) (fun W hW => ?_) ?_
  · go_simp
    exact (H2.out W hW.b).mono fun e w' ⟨he, hb⟩ => ⟨he, hW.up hb⟩
  (try simp only [Act.put, List.setIfInBounds_toArray, List.set_cons_zero, List.set_cons_succ])
  iterate 2
    refine wpQuiet_val (v := ?_) (by rfl) ?_ ?_
    rotate_left
    · ((intro W hW; (try cases hW); go_simp); try with_reducible rfl)
    (try simp only [Act.put, List.setIfInBounds_toArray, List.set_cons_zero, List.set_cons_succ])
  refine wpQuiet_val (v := .string ⟨z0.toArray⟩) (by rfl) (fun W hW => ?_) ?_
  · go_simp
    exact (H3.out W hW.b).mono fun e w' ⟨he, hb⟩ => ⟨he, hW.up hb⟩
  (try simp only [Act.put, List.setIfInBounds_toArray, List.set_cons_zero, List.set_cons_succ])
  iterate 2
    refine wpQuiet_val (v := ?_) (by rfl) ?_ ?_
    rotate_left
    · ((intro W hW; (try cases hW); go_simp); try with_reducible rfl)
    (try simp only [Act.put, List.setIfInBounds_toArray, List.set_cons_zero, List.set_cons_succ])
  refine wpQuiet_val (v := .string ⟨z1.toArray⟩) (by rfl) (fun W hW => ?_) ?_
  · go_simp
    exact (H4.out W hW.b).mono fun e w' ⟨he, hb⟩ => ⟨he, hW.up hb⟩
  (try simp only [Act.put, List.setIfInBounds_toArray, List.set_cons_zero, List.set_cons_succ])
  refine wpQuiet_nil (fun W hW => ?_)
  have hbW := hW.b
  clear hW hB5
  have hbA : Below w.heap.size w (W.alloc (.cells #[.string ⟨y0.toArray⟩, .string ⟨y1.toArray⟩, .string ⟨y2.toArray⟩, .string ⟨z0.toArray⟩, .string ⟨z1.toArray⟩] 9)) := below_alloc hbW _
  have hj := Tryz.strings_Join W.heap.size 0 5 [⟨y0.toArray⟩, ⟨y1.toArray⟩, ⟨y2.toArray⟩, ⟨z0.toArray⟩, ⟨z1.toArray⟩] ⟨#[47]⟩ (W.alloc (.cells #[.string ⟨y0.toArray⟩, .string ⟨y1.toArray⟩, .string ⟨y2.toArray⟩, .string ⟨z0.toArray⟩, .string ⟨z1.toArray⟩] 9)) (fun j x hx => by
    rw [Nat.zero_add]
    have hj : j < 5 := (List.getElem?_eq_some_iff.1 hx).1
    have : j = 0 ∨ j = 1 ∨ j = 2 ∨ j = 3 ∨ j = 4 := by omega
    rcases this with rfl | rfl | rfl | rfl | rfl <;> (cases hx; exact cell_new_at _ _ _ _ _ _ rfl rfl)) (by simp) (by simp) (by simp) hJ
  have HJ := Lib.hid hj
  clear hj hJ
  go_wp2_with fail
  refine HJ.out.mono ?_
  rintro e w8 ⟨rfl, hb8⟩
  have hb9 := below_step hbA hb8
  go_wp2
  go_ret
  exact ⟨rfl, hb9⟩

/-- The text of a position. -/
def textP (p : PosS) : List UInt8 := Lib.join [signsS contS p.cells, signsS digS p.h0, signsS digS p.h1, Lib.itoa p.rights, Lib.itoa p.side] [47]
structure PosNum (p : PosS) : Prop where
  cells : p.cells.length ≤ 1000000
  h0 : p.h0.length ≤ 1000000
  h1 : p.h1.length ≤ 1000000
  rights : -9223372036854775808 ≤ p.rights ∧ p.rights ≤ 9223372036854775807
  side : -9223372036854775808 ≤ p.side ∧ p.side ≤ 9223372036854775807
theorem textP_len {p : PosS} (h : PosNum p) : (textP p).length ≤ 3000050 := by
  have a0 := signsS_len contS p.cells
  have a1 := signsS_len digS p.h0
  have a2 := signsS_len digS p.h1
  have a3 := Lib.itoa_length_le p.rights h.rights.1 h.rights.2
  have a4 := Lib.itoa_length_le p.side h.side.1 h.side.2
  have := h.cells
  have := h.h0
  have := h.h1
  unfold textP
  rw [Lib.join_length]
  simp only [Lib.lens, List.map_cons, List.map_nil, List.sum_cons, List.sum_nil, List.length_cons, List.length_nil]
  omega

theorem written_any (p : PosS) (b b0 b1 : Option Addr) (c c0 c1 N : Nat) (w : World) (hp : PosNum p) (hE : EnvIn w) (hN : N ≤ w.heap.size) (hP : PosIn N w b b0 b1 p) :
    Calls Tryz.prog 58 #[PosV b b0 b1 c c0 c1 p] w fun e w' => e = .returned (.string ⟨(textP p).toArray⟩) ∧ Below w.heap.size w w' :=
  written_by p b b0 b1 c c0 c1 w _ _ _ _ _ (by have := textP_len hp; unfold textP at this; omega)
    (fun W hb => signed_any contS p.cells b c N W (by decide) hp.cells (Nat.le_trans hN hb.size) (hP.up hN hb).cells)
    (fun W hb => signed_any digS p.h0 b0 c0 N W (by decide) hp.h0 (Nat.le_trans hN hb.size) (hP.up hN hb).h0)
    (fun W hb => signed_any digS p.h1 b1 c1 N W (by decide) hp.h1 (Nat.le_trans hN hb.size) (hP.up hN hb).h1)
    (fun W hb => itoa_any p.rights hp.rights.1 hp.rights.2 W (hE.up hb))
    (fun W hb => itoa_any p.side hp.side.1 hp.side.2 W (hE.up hb))

set_option maxRecDepth 100000 in
theorem print_any (g0 g1 g2 g3 g4 g5 g6 g7 g8 : Value) (p : PosS) (b b0 b1 : Option Addr) (c c0 c1 N : Nat) (w : World) (hp : PosNum p) (hE : EnvIn w) (hN : N ≤ w.heap.size) (hP : PosIn N w b b0 b1 p) :
    Calls Tryz.prog 26 #[.agg #[g0, g1, g2, g3, g4, g5, g6, g7, g8], PosV b b0 b1 c c0 c1 p] w fun e w' => e = .returned (.string ⟨(textP p).toArray⟩) ∧ Below w.heap.size w w' := by
  have hq := fun W (h : Below w.heap.size w W) => written_any p b b0 b1 c c0 c1 N W hp (hE.up h) (Nat.le_trans hN h.size) (hP.up hN h)
  have HQ := Lib.hid hq
  clear hq
  unfold PosV at HQ ⊢
  go_enter Tryz.func26, Tryz.ntmps26
  go_wp2_with fail
  refine (HQ.out _ (by (repeat (first | exact Below.refl _ _ | assumption | refine below_alloc ?_ _ | refine Below.drew ?_ | refine below_drewN_ ?_ _ | refine below_step ?_ (by assumption))))).mono ?_
  rintro e w' ⟨rfl, hb⟩
  have hbE := below_step (below_alloc (below_alloc (Below.refl w.heap.size w) _) _) hb
  clear hb
  go_wp2
  go_ret
  exact ⟨rfl, hbE⟩
end Go.Proofs.YtphhkfelpckilaaGreatDoor
