/-
  read of the package prog.
-/
import Derived.Test.YtidgdfjnjgonoaaGreatDoorPEnv
import Derived.Shelf.Strings.SlTrimAscii
import Derived.Deep.MidRow
import Derived.Laws.ResultCell
namespace Go.Proofs.YtidgdfjnjgonoaaGreatDoor
open Go Go.RowKit Go.Sort Go.Lib

def digitsC : List UInt8 := [48, 49, 50, 51, 52, 53, 54, 55, 56, 57]
def wordOf (s : List UInt8) : List UInt8 := trimRightS s digitsC
def numOf (s : List UInt8) : Int := numS (s.drop (wordOf s).length)
def okR (s : List UInt8) (j : Nat) : Bool := opB j && decide (wordL[j]?.getD [] = wordOf s) && decide (writtenS ((j : Int), numOf s) = s)
def readS (s : List UInt8) : Option (Int × Int) := ((List.range 11).find? (okR s)).map fun j => ((j : Int), numOf s)
theorem readS_none {s : List UInt8} (h : ∀ j, j < 11 → okR s j = false) : readS s = none := by
  unfold readS
  rw [List.find?_eq_none.2 (fun j hj => by rw [h j (by simpa using hj)]; simp)]
  rfl
theorem readS_some {s : List UInt8} {q : Nat} (hq : q < 11) (h : ∀ j, j < q → okR s j = false) (ho : okR s q = true) : readS s = some ((q : Int), numOf s) := by
  unfold readS
  rw [List.find?_range_eq_some.2 ⟨ho, by simpa using hq, fun j hj => by rw [h j hj]; rfl⟩]
  rfl
def readV : Option (Int × Int) → Value
  | some x => .tuple #[.agg #[.int .i64 x.1, .int .i64 x.2], .bool true]
  | none => .tuple #[.agg #[.int .i64 0, .int .i64 0], .bool false]
theorem wordOf_le (s : List UInt8) : (wordOf s).length ≤ s.length := by
  unfold wordOf trimRightS
  rw [List.length_reverse]
  have := (List.dropWhile_sublist (fun b => digitsC.contains b) (l := s.reverse)).length_le
  simpa using this

def signsV (ks : Nat → ByteArray) (ms : Nat → Int) : Value := .agg #[.string (ks 0), .int .i64 (ms 0), .string (ks 1), .int .i64 (ms 1), .string (ks 2), .int .i64 (ms 2), .string (ks 3), .int .i64 (ms 3), .string (ks 4), .int .i64 (ms 4), .string (ks 5), .int .i64 (ms 5), .string (ks 6), .int .i64 (ms 6), .string (ks 7), .int .i64 (ms 7), .string (ks 8), .int .i64 (ms 8), .string (ks 9), .int .i64 (ms 9), .string (ks 10), .int .i64 (ms 10)]
theorem signsV_eq (ks : Nat → ByteArray) (ms : Nat → Int) : signsV ks ms = Value.agg #[.string (ks 0), .int .i64 (ms 0), .string (ks 1), .int .i64 (ms 1), .string (ks 2), .int .i64 (ms 2), .string (ks 3), .int .i64 (ms 3), .string (ks 4), .int .i64 (ms 4), .string (ks 5), .int .i64 (ms 5), .string (ks 6), .int .i64 (ms 6), .string (ks 7), .int .i64 (ms 7), .string (ks 8), .int .i64 (ms 8), .string (ks 9), .int .i64 (ms 9), .string (ks 10), .int .i64 (ms 10)] := rfl
theorem idx_signs (ks : Nat → ByteArray) (ms : Nat → Int) (d : Nat) (h : d < 11) (W : World) : (Sem.run Tryz.prog (Instr.index 64 (signsV ks ms) (.int .i64 d)) W) = Result.ok (.agg #[.string (ks d), .int .i64 (ms d)]) W := by
  have : d = 0 ∨ d = 1 ∨ d = 2 ∨ d = 3 ∨ d = 4 ∨ d = 5 ∨ d = 6 ∨ d = 7 ∨ d = 8 ∨ d = 9 ∨ d = 10 := by omega
  rcases this with rfl | rfl | rfl | rfl | rfl | rfl | rfl | rfl | rfl | rfl | rfl <;> (show @Eq (Result Value) _ _; kernel_rfl)

theorem range_signs (ks : Nat → ByteArray) (ms : Nat → Int) (W : World) (h : ∀ j, j < 11 → W.cell? ⟨0, j * 2, none⟩ = some (.string (ks j)) ∧ W.cell? ⟨0, j * 2 + 1, none⟩ = some (.int .i64 (ms j))) :
    W.rangeAt 0 0 [.string (ks 0), .int .i64 (ms 0), .string (ks 1), .int .i64 (ms 1), .string (ks 2), .int .i64 (ms 2), .string (ks 3), .int .i64 (ms 3), .string (ks 4), .int .i64 (ms 4), .string (ks 5), .int .i64 (ms 5), .string (ks 6), .int .i64 (ms 6), .string (ks 7), .int .i64 (ms 7), .string (ks 8), .int .i64 (ms 8), .string (ks 9), .int .i64 (ms 9), .string (ks 10), .int .i64 (ms 10)] := by

  intro j v hv
  have hj : j < 22 := by
    rcases Nat.lt_or_ge j 22 with h' | h'
    · exact h'
    · rw [List.getElem?_eq_none (by simpa using h')] at hv; cases hv
  rw [Nat.zero_add]
  have : j = 0 ∨ j = 1 ∨ j = 2 ∨ j = 3 ∨ j = 4 ∨ j = 5 ∨ j = 6 ∨ j = 7 ∨ j = 8 ∨ j = 9 ∨ j = 10 ∨ j = 11 ∨ j = 12 ∨ j = 13 ∨ j = 14 ∨ j = 15 ∨ j = 16 ∨ j = 17 ∨ j = 18 ∨ j = 19 ∨ j = 20 ∨ j = 21 := by omega
  rcases this with rfl | rfl | rfl | rfl | rfl | rfl | rfl | rfl | rfl | rfl | rfl | rfl | rfl | rfl | rfl | rfl | rfl | rfl | rfl | rfl | rfl | rfl
  · cases hv; exact (h 0 (by omega)).1
  · cases hv; exact (h 0 (by omega)).2
  · cases hv; exact (h 1 (by omega)).1
  · cases hv; exact (h 1 (by omega)).2
  · cases hv; exact (h 2 (by omega)).1
  · cases hv; exact (h 2 (by omega)).2
  · cases hv; exact (h 3 (by omega)).1
  · cases hv; exact (h 3 (by omega)).2
  · cases hv; exact (h 4 (by omega)).1
  · cases hv; exact (h 4 (by omega)).2
  · cases hv; exact (h 5 (by omega)).1
  · cases hv; exact (h 5 (by omega)).2
  · cases hv; exact (h 6 (by omega)).1
  · cases hv; exact (h 6 (by omega)).2
  · cases hv; exact (h 7 (by omega)).1
  · cases hv; exact (h 7 (by omega)).2
  · cases hv; exact (h 8 (by omega)).1
  · cases hv; exact (h 8 (by omega)).2
  · cases hv; exact (h 9 (by omega)).1
  · cases hv; exact (h 9 (by omega)).2
  · cases hv; exact (h 10 (by omega)).1
  · cases hv; exact (h 10 (by omega)).2

theorem wpList_load_signs {ops : Array Oper} {rest : List Oper} {op : Oper} {a : Act} {W : World} {Q : Exit → Act → World → Prop} (hgd : op.guard = none) (x : Operand) (ho : op.op = .load 64 x)
    (hx : a.eval x = .pointer (some ⟨0, 0, none⟩)) (ks : Nat → ByteArray) (ms : Nat → Int) (h : ∀ j, j < 11 → W.cell? ⟨0, j * 2, none⟩ = some (.string (ks j)) ∧ W.cell? ⟨0, j * 2 + 1, none⟩ = some (.int .i64 (ms j)))
    (hK : wpList Tryz.prog ops Q rest (a.put op.dst (signsV ks ms)) W) : wpList Tryz.prog ops Q (op :: rest) a W := by
  have hr := range_signs ks ms W h
  have e : signsV ks ms = .agg ([.string (ks 0), .int .i64 (ms 0), .string (ks 1), .int .i64 (ms 1), .string (ks 2), .int .i64 (ms 2), .string (ks 3), .int .i64 (ms 3), .string (ks 4), .int .i64 (ms 4), .string (ks 5), .int .i64 (ms 5), .string (ks 6), .int .i64 (ms 6), .string (ks 7), .int .i64 (ms 7), .string (ks 8), .int .i64 (ms 8), .string (ks 9), .int .i64 (ms 9), .string (ks 10), .int .i64 (ms 10)] : List Value).toArray := rfl
  have hi : (Tryz.prog.info? 64).map (·.size) = some ([.string (ks 0), .int .i64 (ms 0), .string (ks 1), .int .i64 (ms 1), .string (ks 2), .int .i64 (ms 2), .string (ks 3), .int .i64 (ms 3), .string (ks 4), .int .i64 (ms 4), .string (ks 5), .int .i64 (ms 5), .string (ks 6), .int .i64 (ms 6), .string (ks 7), .int .i64 (ms 7), .string (ks 8), .int .i64 (ms 8), .string (ks 9), .int .i64 (ms 9), .string (ks 10), .int .i64 (ms 10)] : List Value).length := by show _ = some 22; kernel_rfl
  rw [e] at hK
  generalize ([.string (ks 0), .int .i64 (ms 0), .string (ks 1), .int .i64 (ms 1), .string (ks 2), .int .i64 (ms 2), .string (ks 3), .int .i64 (ms 3), .string (ks 4), .int .i64 (ms 4), .string (ks 5), .int .i64 (ms 5), .string (ks 6), .int .i64 (ms 6), .string (ks 7), .int .i64 (ms 7), .string (ks 8), .int .i64 (ms 8), .string (ks 9), .int .i64 (ms 9), .string (ks 10), .int .i64 (ms 10)] : List Value) = cs at *
  exact wpList_load_mid hgd 64 x ho 0 0 hx cs _ hr Tryz.underlying64 rfl hi hK

theorem trim_any (s : List UInt8) (hs : s.length ≤ 281474976710656) (w : World) :
    Calls Tryz.prog 54 #[.string ⟨s.toArray⟩, .string ⟨#[48, 49, 50, 51, 52, 53, 54, 55, 56, 57]⟩] w fun e w' => e = .returned (.string ⟨(wordOf s).toArray⟩) ∧ Below w.heap.size w w' := by
  exact Any.strings_TrimRight_laid Tryz.lays162 (by kernel_rfl) ⟨s.toArray⟩ ⟨#[48, 49, 50, 51, 52, 53, 54, 55, 56, 57]⟩ w (by show s.toArray.size ≤ _; simp; omega) (by decide) (ascii_of_all (by decide))

theorem ext_drop (s : List UInt8) (k : Nat) : (⟨s.toArray⟩ : ByteArray).extract k s.length = ⟨(s.drop k).toArray⟩ := by
  apply ByteArray.ext
  simp
  rw [List.take_of_length_le (by simp)]

set_option maxRecDepth 100000 in
set_option maxHeartbeats 2000000 in
theorem read_any (s : List UInt8) (hs : s.length ≤ 281474976710656) (w : World) (hL : LibIn w) :
    Calls Tryz.prog 42 #[.string ⟨s.toArray⟩] w fun e w' => e = .returned (readV (readS s)) ∧ Below w.heap.size w w' := by
  have hwl := wordOf_le s
  have htr := fun W => trim_any s hs W
  obtain ⟨wd, hwd⟩ : ∃ wd, wordOf s = wd := ⟨_, rfl⟩
  obtain ⟨n, hn⟩ : ∃ n, numOf s = n := ⟨_, rfl⟩
  have hno : n = numS (s.drop wd.length) := by rw [← hn, ← hwd]; rfl
  have hok : ∀ j : Nat, okR s j = (opB j && decide (wordL[j]?.getD [] = wd) && decide (writtenS ((j : Int), n) = s)) := fun j => by unfold okR; rw [hwd, hn]
  have hrs := fun (q : Nat) => @readS_some s q
  rw [hwd] at hwl htr
  rw [hn] at hrs
  have hat := fun W hW => atoi_any ⟨(s.drop wd.length).toArray⟩ (by show (s.drop wd.length).toArray.size ≤ _; simp; omega) W hW
  have hat' : ∀ W, LibIn W → Calls Tryz.prog 55 #[.string ((⟨s.toArray⟩ : ByteArray).extract wd.length s.length)] W fun e w' => ∃ er, e = .returned (.tuple #[.int .i64 n, er]) ∧ Below W.heap.size W w' := by
    intro W hW
    rw [ext_drop, hno]
    have := hat W hW
    simpa using this
  obtain ⟨hn0, hn1⟩ : -9223372036854775808 ≤ n ∧ n ≤ 9223372036854775807 := by rw [hno]; exact numS_bounds _
  have hwr := fun (q : Nat) W (h : q < 11) hW => written_gen q n W h hn0 hn1 hW
  have HTR := Lib.hid htr
  have HLL := Lib.hid hL
  have HOK := Lib.hid hok
  have HRN := Lib.hid (@readS_none s)
  have HRS := Lib.hid hrs
  have HAT := Lib.hid hat'
  have HWR := Lib.hid hwr
  clear htr hL hwd hn hno hok hrs hat hat' hn0 hn1 hwr
  go_enter Tryz.func42, Tryz.ntmps42
  go_wp2_with fail
  refine (HTR.out _).mono ?_
  rintro e w1 ⟨rfl, hb1⟩
  have hL1 := HLL.out.up (below_step (below_alloc (Below.refl _ _) _) hb1)
  have hz : w1.heap[w.heap.size]? = some (.cells #[.int .i64 0, .int .i64 0] 41 (0, 0)) := (hb1.block _ (by simp)).trans (World.alloc_heap_new _ _)
  have hbw1 : Below w.heap.size w w1 := below_step (below_alloc (Below.refl _ _) _) hb1
  have HL1 := Lib.hid hL1
  have HZ := Lib.hid hz
  clear hL1 hz hb1
  go_wp2_with fail
  refine (HAT.out _ HL1.out).mono ?_
  rintro e w2 ⟨er, rfl, hb2⟩
  have hL2 := HL1.out.up hb2
  have hlt1 : w.heap.size < w1.heap.size := (Array.getElem?_eq_some_iff.1 HZ.out).1
  have hz2 := Lib.hid ((hb2.block _ hlt1).trans HZ.out)
  have hbw2 := below_step hbw1 hb2
  have hcell := hL2.signs
  obtain ⟨ks, hks⟩ : ∃ ks, wordS = ks := ⟨_, rfl⟩
  obtain ⟨ms, hms⟩ : ∃ ms, nameS = ms := ⟨_, rfl⟩
  unfold SignsIn at hcell
  rw [hks, hms] at hcell
  have HKS := Lib.hid hks
  clear hks hms
  have HCE := Lib.hid hcell
  have HL2 := Lib.hid hL2
  clear hL2 hcell hb2 HZ hbw1 HL1
  go_upto_region 3 with (fail)
  refine wp_region_lit (l := [_, _]) ?_
  refine wpList_load_signs rfl (.global 0) rfl rfl ks ms HCE.out ?_
  have hidxs := idx_signs ks ms
  generalize signsV ks ms = T at *
  have HIDX := Lib.hid hidxs
  clear hidxs
  go_wp2_with fail
  clear hwl HCE
  generalize ((⟨s.toArray⟩ : ByteArray).extract wd.length s.length) = ex
  have HT2 := Lib.hid hlt1
  clear hlt1
  go_loopw [21] (fun i wr => ∃ q : Nat, q ≤ 11 ∧ i = .int .i64 q ∧ Hid (∀ j, j < q → okR s j = false) ∧ Hid (LibIn wr) ∧ Hid (wr.heap[w.heap.size]? = some (.cells #[.int .i64 0, .int .i64 0] 41 (0, 0))) ∧ Below w.heap.size w wr)
    (fun i _ => 11 - (intOf i).toNat)
  case atStart => exact ⟨0, by omega, rfl, Lib.hid (fun j hj => by omega), HL2, hz2, hbw2⟩
  case round =>
    clear hbw2 HL2 hz2
    obtain ⟨q, hq, rfl, hno, hLr, hzr, hbw⟩ := hrel
    by_cases hlt : q < 11
    · have hidx := HIDX.out q hlt wr
      have hokq := HOK.out q
      rw [← HKS.out] at hidx
      unfold wordS at hidx
      generalize wordL[q]?.getD [] = kl at *
      generalize ms q = nm at *
      have HOQ := Lib.hid hokq
      clear hokq
      have hbA : Below wr.heap.size wr ((wr.alloc (.cells #[.string ⟨kl.toArray⟩, .int .i64 nm] 63)).alloc (.cells #[.int .i64 q, .int .i64 n] 41)) := by (repeat (first | exact Below.refl _ _ | assumption | refine below_alloc ?_ _ | refine Below.drew ?_ | refine below_drewN_ ?_ _ | refine below_step ?_ (by assumption)))
      have e0 : ((wr.alloc (.cells #[.string ⟨kl.toArray⟩, .int .i64 nm] 63)).alloc (.cells #[.int .i64 q, .int .i64 n] 41)).cell? ⟨wr.heap.size, 0, none⟩ = some (.string ⟨kl.toArray⟩) := cell_alloc_keep (cell_new_at _ _ _ _ _ _ rfl rfl) _
      have e1 : ((wr.alloc (.cells #[.string ⟨kl.toArray⟩, .int .i64 nm] 63)).alloc (.cells #[.int .i64 q, .int .i64 n] 41)).cell? ⟨wr.heap.size + 1, 0, none⟩ = some (.int .i64 q) := cell_new_at _ _ _ _ _ _ (by simp) rfl
      have e2 : ((wr.alloc (.cells #[.string ⟨kl.toArray⟩, .int .i64 nm] 63)).alloc (.cells #[.int .i64 q, .int .i64 n] 41)).cell? ⟨wr.heap.size + 1, 1, none⟩ = some (.int .i64 n) := cell_new_at _ _ _ _ _ _ (by simp) rfl
      have HBA := Lib.hid hbA
      have HNO := hno
      have hlz := (Array.getElem?_eq_some_iff.1 hzr.out).1
      have hzA := Lib.hid ((hbA.block _ hlz).trans hzr.out)
      have hLA := Lib.hid (hLr.out.up hbA)
      have hbwA := below_step hbw hbA
      clear hbA hbw hzr hLr hno
      go_wp2_with fail
      refine (isOp_any (q : Int) _).mono ?_
      rintro e w7 ⟨rfl, hw7⟩
      generalize (wr.alloc (.cells #[.string ⟨kl.toArray⟩, .int .i64 nm] 63)).alloc (.cells #[.int .i64 q, .int .i64 n] 41) = w6 at *
      subst hw7
      clear HBA hidx
      cases hob : opB (q : Int) with
      | false =>
        have hq' := Lib.hid (by rw [HOQ.out, hob]; rfl : okR s q = false)
        clear hob
        go_wp2
        go_roundw
        case rel => exact ⟨q + 1, by omega, by simp, Lib.hid (fun j hj => by
          by_cases hjq : j < q
          · exact HNO.out j hjq
          · obtain rfl : j = q := by omega
            exact hq'.out), hLA, hzA, hbwA⟩
        case measure => simp [intOf]; omega
      | true =>
        have HOB := Lib.hid hob
        clear hob
        by_cases hkw : kl = wd
        · have t1 : decide (kl = wd) = true := by simpa using hkw
          have HKW := Lib.hid hkw
          subst hkw
          go_wp2_with fail
          refine (HWR.out q _ hlt hLA.out).mono ?_
          rintro e w8 ⟨rfl, hb8⟩
          have hlz8 := (Array.getElem?_eq_some_iff.1 hzA.out).1
          have hz8 := Lib.hid ((hb8.block _ hlz8).trans hzA.out)
          have hL8 := Lib.hid (hLA.out.up hb8)
          have hbw8 := below_step hbwA hb8
          have e1' := cell_keep hb8 e1
          have e2' := cell_keep hb8 e2
          clear e0 e1 e2 hzA hLA hbwA hb8 hlz8
          have HOQ' := Lib.hid (HOQ.out.trans (by rw [HOB.out]; simp) : okR s q = decide (writtenS ((q : Int), n) = s))
          by_cases hws : writtenS ((q : Int), n) = s
          · have hq' := Lib.hid (HOQ'.out.trans (by simpa using hws) : okR s q = true)
            have hR := Lib.hid (HRS.out q hlt HNO.out hq'.out)
            rw [hws]
            have z0 : w8.cell? ⟨w.heap.size, 0, none⟩ = some (.int .i64 0) := by unfold World.cell?; rw [hz8.out]; rfl
            have z1 : w8.cell? ⟨w.heap.size, 1, none⟩ = some (.int .i64 0) := by unfold World.cell?; rw [hz8.out]; rfl
            have y0 : w8.frozen? ⟨w.heap.size, 0, none⟩ = false := by unfold World.frozen?; rw [hz8.out]; simp
            have y1 : w8.frozen? ⟨w.heap.size, 1, none⟩ = false := by unfold World.frozen?; rw [hz8.out]; simp
            have hbE := Lib.hid ((hbw8.setCell (p := ⟨w.heap.size, 0, none⟩) (Nat.le_refl _) (.int .i64 q)).setCell (p := ⟨w.heap.size, 1, none⟩) (Nat.le_refl _) (.int .i64 n))
            clear hbw8 hL8 hz8 hws
            go_wp2
            refine bodyPost_ret_by (v := .tuple #[.agg #[.int .i64 q, .int .i64 n], .bool true]) (by rw [results_cell_tmp rfl]; go_simp) rfl ?_
            exact ⟨by rw [hR.out]; rfl, hbE.out⟩
          · have hq' := Lib.hid (HOQ'.out.trans (by simpa using hws) : okR s q = false)
            have t3 : decide (writtenS ((q : Int), n) = s) = false := by simpa using hws
            have HW := Lib.hid hws
            generalize writtenS ((q : Int), n) = wr1 at *
            have t4 : (wr1 == s) = false := by simpa using HW.out
            go_wp2
            go_roundw
            case rel => exact ⟨q + 1, by omega, by simp, Lib.hid (fun j hj => by
              by_cases hjq : j < q
              · exact HNO.out j hjq
              · obtain rfl : j = q := by omega
                exact hq'.out), hL8, hz8, hbw8⟩
            case measure => simp [intOf]; omega
        · have t1 : decide (kl = wd) = false := by simpa using hkw
          have hq' := Lib.hid (by rw [HOQ.out, t1]; simp : okR s q = false)
          go_wp2
          go_roundw
          case rel => exact ⟨q + 1, by omega, by simp, Lib.hid (fun j hj => by
            by_cases hjq : j < q
            · exact HNO.out j hjq
            · obtain rfl : j = q := by omega
              exact hq'.out), hLA, hzA, hbwA⟩
          case measure => simp [intOf]; omega
    · obtain rfl : q = 11 := by omega
      have hR := Lib.hid (HRN.out hno.out)
      have z0 : wr.cell? ⟨w.heap.size, 0, none⟩ = some (.int .i64 0) := by unfold World.cell?; rw [hzr.out]; rfl
      have z1 : wr.cell? ⟨w.heap.size, 1, none⟩ = some (.int .i64 0) := by unfold World.cell?; rw [hzr.out]; rfl
      have y0 : wr.frozen? ⟨w.heap.size, 0, none⟩ = false := by unfold World.frozen?; rw [hzr.out]; simp
      have y1 : wr.frozen? ⟨w.heap.size, 1, none⟩ = false := by unfold World.frozen?; rw [hzr.out]; simp
      have hbE := Lib.hid ((hbw.setCell (p := ⟨w.heap.size, 0, none⟩) (Nat.le_refl _) (.int .i64 0)).setCell (p := ⟨w.heap.size, 1, none⟩) (Nat.le_refl _) (.int .i64 0))
      clear hbw hzr hLr hno
      go_wp2
      refine bodyPost_ret_by (v := .tuple #[.agg #[.int .i64 0, .int .i64 0], .bool false]) (by rw [results_cell_tmp rfl]; go_simp) rfl ?_
      exact ⟨by rw [hR.out]; rfl, hbE.out⟩
end Go.Proofs.YtidgdfjnjgonoaaGreatDoor
