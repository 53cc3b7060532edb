/-
  Parse of the package prog.
-/
import Derived.Test.YtidgdfjnjgonoaaGreatDoorPRead
import Derived.Test.YtidgdfjnjgonoaaGreatDoorPPrint
import Derived.Test.YtidgdfjnjgonoaaGreatDoorPStp
import Derived.Maps.AppendAt
import Derived.Laws.OwnMore
namespace Go.Proofs.YtidgdfjnjgonoaaGreatDoor
open Go Go.RowKit Go.Sort Go.Lib

def wordsOf (s : List UInt8) : List (List UInt8) := splitN s [32] 9
def readAll : List (List UInt8) → Option (List (Int × Int))
  | [] => some []
  | x :: r => match readS x with
    | none => none
    | some y => (readAll r).map fun t => y :: t
def parseS (s : List UInt8) : List (Int × Int) × Int :=
  match readAll (wordsOf s) with
  | none => ([], 20)
  | some p => if validP p 8 6 4 = true then (p, 0) else ([], 20)

theorem splitK_le (sep : List UInt8) : ∀ (k : Nat) (s x : List UInt8), x ∈ splitK sep 0 k s → x.length ≤ s.length
  | 0, s, x, h => by unfold splitK at h; rw [List.mem_singleton.1 h]; exact Nat.le_refl _
  | k + 1, s, x, h => by
    unfold splitK at h
    split at h
    · rw [List.mem_singleton.1 h]; exact Nat.le_refl _
    · rcases List.mem_cons.1 h with rfl | h
      · rw [List.length_take]; omega
      · have := splitK_le sep k _ x h
        rw [List.length_drop] at this
        omega
theorem words_eq (s : List UInt8) : (splitB ⟨#[32]⟩ 0 (min 9 ((⟨s.toArray⟩ : ByteArray).size + 1) - 1) ⟨s.toArray⟩).map (·.data.toList) = wordsOf s := by
  rw [splitB_data]
  rfl
theorem words_n (s : List UInt8) : (wordsOf s).length ≤ 9 ∧ (splitB ⟨#[32]⟩ 0 (min 9 ((⟨s.toArray⟩ : ByteArray).size + 1) - 1) ⟨s.toArray⟩).length = (wordsOf s).length ∧ (wordsOf s).length ≤ min 9 ((⟨s.toArray⟩ : ByteArray).size + 1) := by
  have h := words_eq s
  have h1 := congrArg List.length h
  rw [List.length_map] at h1
  have h2 := splitB_length_le ⟨#[32]⟩ 0 (min 9 ((⟨s.toArray⟩ : ByteArray).size + 1) - 1) ⟨s.toArray⟩
  omega
theorem words_le (s : List UInt8) (j : Nat) : ((wordsOf s)[j]?.getD []).length ≤ s.length := by
  cases h : (wordsOf s)[j]? with
  | none => simp
  | some x => exact splitK_le _ _ _ _ (List.mem_of_getElem? h)
theorem words_cell (s : List UInt8) (w : World) (j : Nat) (hj : j < (wordsOf s).length) :
    (w.alloc (.cells (cellsOf (splitB ⟨#[32]⟩ 0 (min 9 ((⟨s.toArray⟩ : ByteArray).size + 1) - 1) ⟨s.toArray⟩) (min 9 ((⟨s.toArray⟩ : ByteArray).size + 1))) 9)).cell? ⟨w.heap.size, j, none⟩ = some (.string ⟨((wordsOf s)[j]?.getD []).toArray⟩) := by
  have h := words_eq s
  rw [World.cell?_alloc_new]
  unfold cellsOf
  rw [← h] at hj ⊢
  rw [List.length_map] at hj
  rw [List.getElem?_toArray, List.getElem?_append_left (by simpa using hj), List.getElem?_map, List.getElem?_map, List.getElem?_eq_getElem hj]
  simp

set_option maxRecDepth 100000 in
set_option maxHeartbeats 2000000 in
theorem parse_any (s : List UInt8) (hs : s.length < 4294967281) (w : World) (hL : LibIn w) :
    Calls Tryz.prog 23 #[.string ⟨s.toArray⟩] w fun e w' => ∃ v, e = .returned (.tuple #[v, .int .i64 (parseS s).2]) ∧ OwnStp w.heap.size w' v (parseS s).1 ∧ Below w.heap.size w w' := by
  obtain ⟨m, hm⟩ := hL.max
  have hsp := Tryz.strings_SplitN ⟨s.toArray⟩ ⟨#[32]⟩ 9 m w (by show s.toArray.size < _; simpa using hs) hm (by decide) (by omega) (by omega)
  obtain ⟨hn9, hnl, hnc⟩ := words_n s
  rw [hnl] at hsp
  have hcl := words_cell s w
  have hwl := words_le s
  have hpS : parseS s = (match readAll (wordsOf s) with | none => ([], 20) | some p => if validP p 8 6 4 = true then (p, 0) else ([], 20)) := rfl
  generalize hCL : Obj.cells (cellsOf (splitB ⟨#[32]⟩ 0 (min 9 ((⟨s.toArray⟩ : ByteArray).size + 1) - 1) ⟨s.toArray⟩) (min 9 ((⟨s.toArray⟩ : ByteArray).size + 1))) 9 = ob at hsp hcl
  generalize min 9 ((⟨s.toArray⟩ : ByteArray).size + 1) = cp at hsp
  generalize wordsOf s = ws at *
  generalize parseS s = R at *
  have HSP := Lib.hid hsp
  have HPS := Lib.hid hpS
  have HWL := Lib.hid hwl
  clear hsp hpS hwl hm hnl hnc hCL
  obtain ⟨i0, hi, hz0, hz1, hz2⟩ := info_parts info_step
  have hbA : Below w.heap.size w (w.alloc ob) := below_alloc (Below.refl _ _) _
  have hsA : (w.alloc ob).heap.size = w.heap.size + 1 := World.size_alloc _ _
  have HLA := Lib.hid (hL.up hbA)
  clear hL
  go_enter Tryz.func23, Tryz.ntmps23
  go_wp2_with fail
  refine HSP.out.mono ?_
  rintro e w1 ⟨rfl, rfl⟩
  generalize w.alloc ob = w1 at *
  have HCL := Lib.hid hcl
  have HSA := Lib.hid hsA
  clear hcl hsA HSP
  go_wp2_with fail
  go_loopw [4, 12] (fun p i wr => ∃ (q : Nat) (done : List (Int × Int)), q ≤ ws.length ∧ i = .int .i64 q ∧ Hid (readAll ws = (readAll (ws.drop q)).map fun t => done ++ t) ∧ Hid (done.length = q) ∧ OwnStp w1.heap.size wr p done ∧ Below w1.heap.size w1 wr)
    (fun _ i _ => ws.length - (intOf i).toNat)
  case atStart => exact ⟨0, [], by omega, rfl, Lib.hid (by simp), Lib.hid rfl, World.ownsRow_nil _ _ _ _, Below.refl _ _⟩
  case round =>
    obtain ⟨q, done, hq, rfl, hra, hdl, ho, hbw⟩ := hrel
    by_cases hlt : q < ws.length
    · have hc := cell_keep hbw (HCL.out q hlt)
      have hLr := Lib.hid (HLA.out.up hbw)
      have hxl := HWL.out q
      have hdr : ws.drop q = (ws[q]?.getD []) :: ws.drop (q + 1) := by
        rw [List.drop_eq_getElem_cons hlt, List.getElem?_eq_getElem hlt]; rfl
      have HRA := Lib.hid (hra.out.trans (by rw [hdr]))
      clear hdr hra
      generalize ws[q]?.getD [] = x at *
      go_wp2_with fail
      refine (read_any x (by omega) _ hLr.out).mono ?_
      rintro e w2 ⟨rfl, hb2⟩
      have hbw2 := below_step hbw hb2
      have ho2 := ho.below hb2
      clear ho hbw hc hLr
      cases hr : readS x with
      | none =>
        have hE := Lib.hid (HRA.out.trans (by unfold readAll; rw [hr]; rfl) : readAll ws = none)
        unfold readV
        go_wp2
        refine bodyPost_ret (results_tmp2 rfl _ _ _) rfl ?_
        refine ⟨_, by rw [HPS.out, hE.out]; rfl, by rw [HPS.out, hE.out]; exact World.ownsRow_nil _ _ _ _, ?_⟩
        exact hbA.trans ((below_step hbw2 (below_alloc (Below.refl _ _) _)).mono (by have := HSA.out; omega))
      | some y =>
        have hE := Lib.hid (HRA.out.trans (by rw [readAll, hr]; simp [Option.map_map, Function.comp_def]) : readAll ws = (readAll (ws.drop (q + 1))).map fun t => (done ++ [y]) ++ t)
        unfold readV
        obtain ⟨y1, y2⟩ := y
        dsimp only
        have hd9 := hdl.out
        have hA3 : Below w2.heap.size w2 ((w2.alloc (.cells #[.int .i64 y1, .int .i64 y2] 41)).alloc (.cells #[.int .i64 y1, .int .i64 y2] 41)) := by (repeat (first | exact Below.refl _ _ | assumption | refine below_alloc ?_ _ | refine Below.drew ?_ | refine below_drewN_ ?_ _ | refine below_step ?_ (by assumption)))
        have HO3 := Lib.hid (ho2.below hA3)
        have HNW := Lib.hid (by
          intro j u hj
          match j, hj with
          | 0, hj => cases hj; exact cell_new_at _ _ _ _ _ _ (by simp) rfl
          | 1, hj => cases hj; exact cell_new_at _ _ _ _ _ _ (by simp) rfl
          : ∀ (j : Nat) (u : Value), [Value.int .i64 y1, .int .i64 y2][j]? = some u → ((w2.alloc (.cells #[.int .i64 y1, .int .i64 y2] 41)).alloc (.cells #[.int .i64 y1, .int .i64 y2] 41)).cell? ((⟨w2.heap.size + 1, 0, none⟩ : Addr).add j) = some u)
        go_wp2_with (at_builtin; go_loud (refine wpList_append_own_at _ rfl (.tmp 23) (.tmp 25) 26 rfl w1.heap.size 41 i0 (.agg #[.int .i64 0, .int .i64 0]) 2 16 Tryz.underlying26 hi hz0 hz1 hz2 rfl (by decide) _ done.length _ rfl HO3.out ⟨w2.heap.size + 1, 0, none⟩ 1 1 [.int .i64 y1, .int .i64 y2] rfl rfl HNW.out (by simp [Value.oneCell']) (by unfold maxLen; omega) (by omega) (Nat.le_trans hbw2.size hA3.size) ?_; intro v9 w9 hown9 hgrow9 _ hat9))
        have ho9 : OwnStp w1.heap.size w9 v9 (done ++ [(y1, y2)]) := by
          unfold OwnStp
          rw [flatP_app, List.length_append]
          exact hown9
        have hb9 : Below w1.heap.size w1 w9 := (hbw2.trans (hA3.mono hbw2.size)).trans ((Alters.of_grown hgrow9).below (Nat.le_trans hbw2.size hA3.size) (fun k hk => (World.ownsRow.lt HO3.out k hk.symm).1))
        have hl9 : (done ++ [(y1, y2)]).length = q + 1 := by rw [List.length_append, hdl.out]; rfl
        have HL9 := Lib.hid hl9
        clear hown9 hgrow9 hat9 hl9
        go_roundw
        case rel => exact ⟨q + 1, done ++ [(y1, y2)], by omega, by simp, hE, HL9, ho9, hb9⟩
        case measure => simp [intOf]; omega
    · obtain rfl : q = ws.length := by omega
      have hE := Lib.hid (hra.out.trans (by rw [List.drop_length]; simp [readAll]) : readAll ws = some done)
      obtain ⟨pa, pc, rfl, hP⟩ := ho.prg
      have hpr := printable_any done pa pc wr.heap.size wr (Nat.le_refl _) hP (HLA.out.up hbw).signs
      have HPR := Lib.hid hpr
      have HO := Lib.hid ho
      clear hpr hP hra ho
      go_wp2_with fail
      refine HPR.out.mono ?_
      rintro e w8 ⟨rfl, hb8⟩
      have hb9 := hbA.trans ((below_step hbw hb8).mono (by have := HSA.out; omega))
      cases hv : validP done 8 6 4 with
      | false =>
        have HR := Lib.hid (by rw [HPS.out, hE.out]; simp [hv] : R = ([], 20))
        clear hv
        go_wp2
        refine bodyPost_ret (results_tmp2 rfl _ _ _) rfl ?_
        exact ⟨_, by rw [HR.out]; rfl, by rw [HR.out]; exact World.ownsRow_nil _ _ _ _, hb9⟩
      | true =>
        have HR := Lib.hid (by rw [HPS.out, hE.out]; simp [hv] : R = (done, 0))
        clear hv
        go_wp2
        refine bodyPost_ret (results_tmp2 rfl _ _ _) rfl ?_
        exact ⟨_, by rw [HR.out]; rfl, by rw [HR.out]; exact (HO.out.below hb8).mono (by have := HSA.out; omega), hb9⟩
end Go.Proofs.YtidgdfjnjgonoaaGreatDoor
