/-
  Print of the package prog.
-/
import Derived.Test.YtidgdfjnjgonoaaGreatDoorPWritten
import Derived.OwnWalk
import Derived.Laws.OwnMore
namespace Go.Proofs.YtidgdfjnjgonoaaGreatDoor
open Go Go.RowKit Go.Sort Go.Lib

def printS (l : List (Int × Int)) : List UInt8 := if validP l 8 6 4 = true then join (l.map writtenS) [32] else []

theorem printable_any (l : List (Int × Int)) (a : Option Addr) (c N : Nat) (w : World) (hN : N ≤ w.heap.size) (hI : Prg N w a l) (hS : SignsIn w) :
    Calls Tryz.prog 37 #[.slice a l.length c] w fun e w' => e = .returned (.bool (validP l 8 6 4)) ∧ Below w.heap.size w w' := by
  have hv := valid_any l a c 8 6 4 N w hN hI hS
  have HV := Lib.hid hv
  clear hv
  go_enter Tryz.func37, Tryz.ntmps37
  go_wp2_with fail
  refine HV.out.mono ?_
  rintro e w' ⟨rfl, hb⟩
  go_wp2
  go_ret
  exact ⟨rfl, hb⟩

/-- A step of a valid program. -/
theorem valid_step {l : List (Int × Int)} (h : validP l 8 6 4 = true) {j : Nat} (hj : j < l.length) : ∃ op n : Nat, l[j]?.getD (0, 0) = ((op : Int), (n : Int)) ∧ 0 < op ∧ op < 11 ∧ n < 8 := by
  unfold validP at h
  simp only [Bool.and_eq_true, List.all_eq_true] at h
  have hx := h.2.2.1 _ (List.getElem_mem hj)
  rw [List.getElem?_eq_getElem hj, Option.getD_some]
  generalize l[j] = x at hx
  obtain ⟨op, n⟩ := x
  unfold okStep at hx
  simp only [Bool.and_eq_true, decide_eq_true_eq] at hx
  obtain ⟨o, rfl, h0, h11⟩ := opB_nat hx.1
  obtain ⟨m, rfl⟩ := Int.eq_ofNat_of_zero_le hx.2.1
  have hlim : ∀ m : Int, limS 8 6 4 m ≤ 8 := fun m => by unfold limS; split <;> (try split) <;> (try split) <;> omega
  have := hlim (nameS (o : Int).toNat)
  exact ⟨o, m, rfl, h0, h11, by have := hx.2.2; omega⟩
theorem valid_len {l : List (Int × Int)} (h : validP l 8 6 4 = true) : 1 ≤ l.length ∧ l.length ≤ 8 := by
  unfold validP at h
  simp only [Bool.and_eq_true, decide_eq_true_eq] at h
  exact ⟨h.1, h.2.1⟩

def wordsTo (l : List (Int × Int)) (q : Nat) : List ByteArray := (List.range l.length).map fun j => if j < q then ⟨(writtenS (l[j]?.getD (0, 0))).toArray⟩ else ⟨#[]⟩
theorem wordsTo_zero (l : List (Int × Int)) : (wordsTo l 0).map Value.string = List.replicate l.length (.string ⟨#[]⟩) := by
  apply List.ext_getElem
  · simp [wordsTo]
  · intro i h1 h2; simp [wordsTo]
theorem wordsTo_succ (l : List (Int × Int)) (q : Nat) : (wordsTo l (q + 1)).map Value.string = ((wordsTo l q).map Value.string).set q (.string ⟨(writtenS (l[q]?.getD (0, 0))).toArray⟩) := by
  apply List.ext_getElem
  · simp [wordsTo]
  · intro i h1 h2
    by_cases e : i = q
    · subst e; rw [List.getElem_set_self]; simp [wordsTo]
    · rw [List.getElem_set_ne (fun h => e h.symm)]
      simp only [wordsTo, List.getElem_map, List.getElem_range]
      by_cases hi : i < q
      · rw [if_pos hi, if_pos (by omega)]
      · rw [if_neg hi, if_neg (by omega)]
theorem wordsTo_full (l : List (Int × Int)) : (wordsTo l l.length).map (fun x => x.data.toList) = l.map writtenS := by
  apply List.ext_getElem
  · simp [wordsTo]
  · intro i h1 h2
    have hi : i < l.length := by simpa using h2
    simp [wordsTo, hi]
theorem written_len (op n : Nat) (hn : n < 100) : (writtenS ((op : Int), (n : Int))).length ≤ 8 := by
  unfold writtenS
  rw [Int.toNat_natCast, itoa_nat]
  have h1 := word_len op
  have h2 := dec_len n hn
  split <;> simp <;> omega
theorem lens_le (xs : List (List UInt8)) (h : ∀ x ∈ xs, x.length ≤ 8) : lens xs ≤ 8 * xs.length := by
  induction xs with
  | nil => simp [lens]
  | cons x r ih =>
    have h1 := h x (by simp)
    have h2 := ih (fun y hy => h y (by simp [hy]))
    simp only [lens, List.map_cons, List.sum_cons, List.length_cons] at h2 ⊢
    omega
theorem print_len {l : List (Int × Int)} (h : validP l 8 6 4 = true) : (join (l.map writtenS) [32]).length ≤ 100 := by
  obtain ⟨h1, h8⟩ := valid_len h
  have hall : ∀ x ∈ l.map writtenS, x.length ≤ 8 := by
    intro x hx
    obtain ⟨y, hy, rfl⟩ := List.mem_map.1 hx
    obtain ⟨j, hj⟩ := List.getElem?_of_mem hy
    obtain ⟨op, n, e, _, _, hn⟩ := valid_step h (List.getElem?_eq_some_iff.1 hj).1
    rw [hj, Option.getD_some] at e
    rw [e]
    exact written_len op n (by omega)
  have hl := lens_le _ hall
  rw [List.length_map] at hl
  cases hm : l.map writtenS with
  | nil => simp [join_nil]
  | cons x r =>
    rw [join_length, ← hm]
    have : r.length + 1 = l.length := by have := congrArg List.length hm; simpa using this.symm
    simp
    omega

theorem info_str : (Tryz.prog.info? 9).map (fun i => (i.zero, i.size, i.bytes)) = some (some (.string ⟨#[]⟩), 1, 16) := by kernel_rfl

set_option maxRecDepth 100000 in
set_option maxHeartbeats 2000000 in
theorem print_any (l : List (Int × Int)) (a : Option Addr) (c N : Nat) (w : World) (hN : N ≤ w.heap.size) (hI : Prg N w a l) (hS : SignsIn w) :
    Calls Tryz.prog 20 #[.slice a l.length c] w fun e w' => e = .returned (.string ⟨(printS l).toArray⟩) ∧ Below w.heap.size w w' := by
  have hpr := printable_any l a c N w hN hI hS
  have HPR := Lib.hid hpr
  clear hpr
  cases hv : validP l 8 6 4 with
  | false =>
    have HO := Lib.hid (by unfold printS; rw [hv]; rfl : printS l = [])
    have HV := Lib.hid hv
    clear hv
    go_enter Tryz.func20, Tryz.ntmps20
    go_wp2_with fail
    refine HPR.out.mono ?_
    rintro e w' ⟨rfl, hb⟩
    rw [HV.out]
    go_wp2
    go_ret
    exact ⟨by rw [HO.out]; rfl, hb⟩
  | true =>
    have HO := Lib.hid (by unfold printS; rw [if_pos hv] : printS l = join (l.map writtenS) [32])
    obtain ⟨hl1, hl8⟩ := valid_len hv
    have hst := fun (j : Nat) (hj : j < l.length) => valid_step hv hj
    have hpl := print_len hv
    have HST := Lib.hid hst
    have HPL := Lib.hid hpl
    have HV := Lib.hid hv
    clear hv hst hpl
    obtain ⟨i0, hi, hz0, hz1, hz2⟩ := info_parts info_str
    go_enter Tryz.func20, Tryz.ntmps20
    go_wp2_with fail
    refine HPR.out.mono ?_
    rintro e w1 ⟨rfl, hb1⟩
    rw [HV.out]
    have hs1 := hb1.size
    go_wp2_with (at_make; go_loud (refine wpList_make_full _ rfl _ _ 48 rfl w.heap.size 9 i0 (.string ⟨#[]⟩) 1 Tryz.underlying48 hi hz0 hz1 .i64 .i64 l.length l.length l.length rfl rfl rfl rfl (by rw [hz2]; omega) (by unfold maxLen; omega) (by omega) ?_; intro w5 hown5 hgrow5))
    have hmz : (madeCells (Value.string ⟨#[]⟩).cells (l.length * 1)).toList = (wordsTo l 0).map Value.string := by
      rw [wordsTo_zero]
      apply List.ext_getElem
      · simp [madeCells]
      · intro i h1 h2
        simp [madeCells, Value.cells, Nat.mod_one]
    rw [hmz] at hown5
    have hb5 : Below w.heap.size w w5 := hb1.trans ((Alters.of_grown hgrow5).below hs1 (fun k hk => by cases hk))
    generalize w1.heap.size = G at *
    clear hgrow5 hmz hb1
    go_loopw [14] (fun i wr => ∃ q : Nat, q ≤ l.length ∧ i = .int .i64 q ∧ wr.ownsRow w.heap.size 9 1 (.slice (some ⟨G, 0, none⟩) l.length l.length) l.length ((wordsTo l q).map Value.string) ∧ Below w.heap.size w wr)
      (fun i _ => l.length - (intOf i).toNat)
    case atStart => exact ⟨0, Nat.zero_le _, rfl, hown5, hb5⟩
    case round =>
      clear hown5 hb5
      obtain ⟨q, hq, rfl, ho, hbw⟩ := hrel
      by_cases hlt : q < l.length
      · obtain ⟨b, off, hab, hbN, hop, hnn⟩ := (hI.up hN hbw).at_ hlt
        subst hab
        obtain ⟨op, n, hxe, ho0, ho11, hn8⟩ := HST.out q hlt
        have hsuc := wordsTo_succ l q
        rw [hxe] at hop hnn hsuc
        dsimp only at hop hnn
        have HS := Lib.hid hsuc
        clear hsuc hxe
        have hbs : Below wr.heap.size wr (wr.alloc (.cells #[.int .i64 op, .int .i64 n] 41)) := below_alloc (Below.refl _ _) _
        have hbw6 := below_step hbw hbs
        have ho6 := ho.alloc (.cells #[.int .i64 op, .int .i64 n] 41)
        go_wp2_with fail
        generalize wr.alloc (.cells #[.int .i64 op, .int .i64 n] 41) = w6 at *
        refine (written_any op n w6 ho11 (by omega) (hS.up hbw6)).mono ?_
        rintro e w7 ⟨rfl, hb7⟩
        have ho7 : w7.ownsRow w.heap.size 9 1 (.slice (some ⟨G, 0, none⟩) l.length l.length) l.length ((wordsTo l q).map Value.string) := by
          refine ⟨ho6.1, ?_⟩
          rcases ho6.2 with h2 | ⟨g, cap, cur, hv, hg, hc, r⟩
          · exact .inl h2
          · exact .inr ⟨g, cap, cur, hv, hg, (hb7.block g (Array.getElem?_eq_some_iff.1 hc).1).trans hc, r⟩
        have hbw7 := below_step hbw6 hb7
        have hGw : w.heap.size ≤ G := (World.ownsRow.lt ho7 G rfl).1
        have hcq := World.ownsRow.cellAt ho7 q (by omega)
        obtain ⟨old, hold⟩ : ∃ old, ((wordsTo l q).map Value.string)[q]? = some old := ⟨((wordsTo l q).map Value.string)[q]'(by simp [wordsTo, hlt]), by simp [wordsTo, hlt]⟩
        rw [hold] at hcq
        have hfq := World.ownsRow.frozenAt ho7 q
        have hset := (World.ownsRow.stored ho7 q (.string ⟨(writtenS ((op : Int), (n : Int))).toArray⟩)).1
        rw [← HS.out] at hset
        generalize writtenS ((op : Int), (n : Int)) = wd at hset ⊢
        have HSET := Lib.hid hset
        have HB := Lib.hid (hbw7.setCell (p := ⟨G, q, none⟩) (by show w.heap.size ≤ G; omega) (.string ⟨wd.toArray⟩))
        clear hset ho7 hbw7 hb7 ho6 hbw6 ho hbw hbs hop hnn hold
        go_wp2
        go_roundw
        case rel => exact ⟨q + 1, by omega, by simp, HSET.out, HB.out⟩
        case measure => simp [intOf]; omega
      · obtain rfl : q = l.length := by omega
        have hj := Tryz.strings_Join G 0 l.length (wordsTo l l.length) ⟨#[32]⟩ wr (fun j x hx => by
          have hjl : j < l.length := by have := (List.getElem?_eq_some_iff.1 hx).1; simpa [wordsTo] using this
          have := World.ownsRow.cellAt ho j (by omega)
          rw [Nat.zero_add, this, List.getElem?_map, hx]; rfl) (World.ownsRow.lt ho G rfl).2 (by simp [wordsTo]; omega) (by simp [wordsTo]) (by rw [wordsTo_full]; have := HPL.out; show (join (l.map writtenS) [32]).length ≤ _; omega)
        rw [wordsTo_full] at hj
        have hwl : (wordsTo l l.length).length = l.length := by simp [wordsTo]
        rw [hwl] at hj
        have HJ := Lib.hid hj
        clear hj hwl ho
        go_wp2_with fail
        refine HJ.out.mono ?_
        rintro e w8 ⟨rfl, hb8⟩
        have hb9 := below_step hbw hb8
        go_wp2
        go_ret
        exact ⟨by rw [HO.out]; rfl, hb9⟩
end Go.Proofs.YtidgdfjnjgonoaaGreatDoor
