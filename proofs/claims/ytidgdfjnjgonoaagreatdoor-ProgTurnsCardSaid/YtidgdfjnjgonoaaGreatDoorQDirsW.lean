/-
  Of the reference: Dirs, walked.
-/
import Derived.Test.YtidgdfjnjgonoaaGreatDoorQDirs
import Derived.Deep.RegionHeld3
namespace Go.Proofs.YtidgdfjnjgonoaaGreatDoor
open Go Go.RowKit Go.Sort Go.Lib

theorem dirsS_len (l : List (Int × Int)) : (dirsS l).length ≤ l.length := by
  unfold dirsS compact compactUpTo
  rw [List.length_map]
  refine Nat.le_trans (List.length_filter_le _ _) ?_
  rw [List.length_range, List.length_mergeSort]
  exact dirsL_len l

set_option maxRecDepth 100000 in
set_option maxHeartbeats 4000000 in
theorem rdirs_any (l : List (Int × Int)) (a : Option Addr) (c N : Nat) (w : World) (hl : l.length ≤ 100) (hN : N ≤ w.heap.size) (hL : Prg N w a l) :
    Calls Tryz.prog 19 #[.slice a l.length c] w fun e w' => ∃ v, e = .returned v ∧ OwnInts w.heap.size w' v (dirsS l) ∧ Below w.heap.size w w' := by
  go_enter Tryz.func19, Tryz.ntmps19
  go_wp2_with fail
  have ho := own_empty w
  have hb : Below w.heap.size w (w.alloc (.cells #[] 3)) := below_alloc (Below.refl _ _) _
  generalize w.alloc (.cells #[] 3) = w0 at *
  go_loopw [3, 4] (fun o i wr => ∃ q : Nat, q ≤ l.length ∧ i = .int .i64 q ∧ OwnInts w.heap.size wr o (rdirsS (l.take q)) ∧ Below w.heap.size w wr)
    (fun _ i _ => l.length - (intOf i).toNat)
  case atStart => exact ⟨0, Nat.zero_le _, rfl, ho, hb⟩
  case round =>
    clear ho hb
    obtain ⟨q, hq, rfl, ho, hbw⟩ := hrel
    by_cases hlt : q < l.length
    · obtain ⟨b, off, hab, hbN, hop, hnn⟩ := (hL.up hN hbw).at_ hlt
      subst hab
      have htk : l.take (q + 1) = l.take q ++ [l[q]?.getD (0, 0)] := by rw [List.take_add_one]; simp [hlt]
      have hsn := rdirs_snoc (l.take q) (l[q]?.getD (0, 0))
      rw [← htk] at hsn
      have hrl : (rdirsS (l.take q)).length ≤ 100 := by rw [rdirs_eq]; refine Nat.le_trans (dirsS_len _) ?_; simp; omega
      generalize l[q]?.getD (0, 0) = x at hop hnn hsn
      obtain ⟨op, n⟩ := x
      dsimp only at hop hnn hsn
      generalize rdirsS (l.take q) = R at ho hsn hrl
      have HSN := Lib.hid hsn
      clear hsn htk
      obtain ⟨oa, oc, rfl, hoI⟩ := ho.ints
      go_wp2_with fail
      refine (leads_any op n wr).mono ?_
      rintro e w7 ⟨rfl, hb7⟩
      have ho7 := ho.alters (S := fun _ => False) (Alters.of_below hb7) (fun _ h => h.elim)
      have hbw7 := below_step hbw hb7
      replace hop := cell_keep hb7 hop
      replace hnn := cell_keep hb7 hnn
      replace hoI := (hoI.below hb7).mono hb7.size
      clear ho hbw hb7
      cases hd : hasDirB op with
      | false =>
        have HD := Lib.hid hd
        clear hd hop hnn
        go_wp2
        go_roundw
        case rel => exact ⟨q + 1, by omega, by simp, by rw [HSN.out, HD.out]; simpa using ho7, hbw7⟩
        case measure => simp [intOf]; omega
      | true =>
        have HD := Lib.hid hd
        clear hd
        have HSN2 := Lib.hid (show rdirsS (l.take (q + 1)) = putIn n R by rw [HSN.out, HD.out]; rfl)
        go_wp2_with fail
        go_region_held3 (fun w' => w'.cell? ⟨b, off + q * 2 + 1, none⟩ = some (.int .i64 n)) (first | exact cell_drew hnn | exact hnn | exact cell_alloc_keep (by assumption) _ | go_keep) (fail)
        have hbE : Below w7.heap.size w7 (w7.alloc (.cells #[] 3)).drew := (below_alloc (Below.refl _ _) _).drew
        have ho1 : OwnInts w7.heap.size (w7.alloc (.cells #[] 3)).drew (.slice (some ⟨w7.heap.size, 0, none⟩) 0 0) [] := (own_empty w7).alters (S := fun _ => False) (Alters.of_below (Below.refl _ _).drew) (fun _ h => h.elim)
        generalize (w7.alloc (.cells #[] 3)).drew = w2 at *
        clear ho7 hop hnn
        have hR2 : R.length ≤ 100 := hrl
        go_wp2_with fail
        go_loopw [5, 7, 8] (fun nx dn k wr => ∃ j : Nat, j ≤ R.length ∧ k = .int .i64 j ∧ dn = .bool (putTo n (R.take j)).2 ∧ OwnInts w7.heap.size wr nx (putTo n (R.take j)).1 ∧ Below w7.heap.size w7 wr)
          (fun _ _ k _ => R.length - (intOf k).toNat)
        case atStart => exact ⟨0, Nat.zero_le _, rfl, rfl, ho1, hbE⟩
        case round =>
          clear ho1 hbE
          obtain ⟨j, hj, rfl, rfl, hoA, hbA⟩ := hrel
          by_cases hjl : j < R.length
          · obtain ⟨bo, fo, hao, hboN, hx7⟩ := hoI.at_ hjl
            subst hao
            have hxo := (hbA.cell (p := ⟨bo, fo + j, none⟩) hboN).trans hx7
            have htk : R.take (j + 1) = R.take j ++ [R[j]?.getD 0] := by rw [List.take_add_one]; simp [hjl]
            have hps := putTo_snoc n (R.take j) (R[j]?.getD 0)
            rw [← htk] at hps
            have hpl := putTo_len n (R.take j)
            have hpl2 : (putTo n (R.take j)).1.length ≤ 200 := by
              refine Nat.le_trans hpl ?_
              simp; omega
            unfold putStep at hps
            generalize R[j]?.getD 0 = x at hxo hx7 hps
            generalize putTo n (R.take j) = st at *
            obtain ⟨P, dn⟩ := st
            dsimp only at hps hoA hpl2
            have HPS := Lib.hid hps
            have HPL := Lib.hid hpl2
            clear hps hpl hpl2 htk
            cases dn with
            | true =>
              have HR := Lib.hid (show putTo n (R.take (j + 1)) = (P ++ [x], true) by rw [HPS.out]; simp)
              clear hx7
              have hAC : Below wr.heap.size wr (wr.alloc (.cells #[.int .i64 x] 3)) := below_alloc (Below.refl _ _) _
              have HNC := Lib.hid (hoA.alters (S := fun _ => False) (Alters.of_below hAC) (fun _ h => h.elim))
              have HOA := Lib.hid hoA
              clear hoA
              go_wp2_with (at_builtin; go_loud (refine wpList_push rfl (.tmp 57) (.tmp 62) rfl w7.heap.size _ P rfl HNC.out (by have := HPL.out; omega) (Nat.le_trans hbA.size hAC.size) ⟨wr.heap.size, 0, none⟩ x rfl (cell_new_at _ _ _ _ _ _ rfl rfl) ?_; intro gC capC wC hoC hgC haC))
              have hbC := push_below hbA hAC hbA.size HOA.out hgC
              clear haC hAC
              go_roundw
              case rel => exact ⟨j + 1, by omega, by simp, by rw [HR.out], by rw [HR.out]; exact hoC, hbC⟩
              case measure => simp [intOf]; omega
            | false =>
              by_cases h1 : n < x
              · have HR := Lib.hid (show putTo n (R.take (j + 1)) = (P ++ [n] ++ [x], true) by rw [HPS.out]; simp [h1]; omega)
                have t1 : decide (n < x) = true := by simpa using h1
                have t2 : decide (n ≤ x) = true := by simp; omega
                clear h1
                have hAB : Below wr.heap.size wr (wr.alloc (.cells #[.int .i64 n] 3)) := below_alloc (Below.refl _ _) _
                have HNB := Lib.hid (hoA.alters (S := fun _ => False) (Alters.of_below hAB) (fun _ h => h.elim))
                have HOA := Lib.hid hoA
                have HX7 := Lib.hid hx7
                have HBA := Lib.hid hbA
                have HAB := Lib.hid hAB
                clear hoA hx7 hbA hAB
                go_wp2_with (first
                  | (at_builtin
                     refine wpList_push rfl (.tmp 44) (.tmp 46) rfl w7.heap.size _ P rfl HNB.out (by have := HPL.out; omega) (Nat.le_trans HBA.out.size HAB.out.size) ⟨wr.heap.size, 0, none⟩ n rfl (cell_new_at _ _ _ _ _ _ rfl rfl) ?_
                     intro gB capB wB hoB hgB haB
                     have hbB := push_below HBA.out HAB.out HBA.out.size HOA.out hgB
                     have hxB := (hbB.cell (p := ⟨bo, fo + j, none⟩) hboN).trans HX7.out
                     have hAC : Below wB.heap.size wB (wB.alloc (.cells #[.int .i64 x] 3)) := below_alloc (Below.refl _ _) _
                     have HNC := Lib.hid (hoB.alters (S := fun _ => False) (Alters.of_below hAC) (fun _ h => h.elim))
                     have HOB := Lib.hid hoB
                     have HBB := Lib.hid hbB
                     have HAC := Lib.hid hAC
                     clear hoB hbB hAC haB hgB)
                  | (at_builtin
                     refine wpList_push rfl (.tmp 57) (.tmp 62) rfl w7.heap.size _ (P ++ [n]) rfl HNC.out (by have := HPL.out; simp; omega) (Nat.le_trans HBB.out.size HAC.out.size) ⟨wB.heap.size, 0, none⟩ x rfl (cell_new_at _ _ _ _ _ _ rfl rfl) ?_
                     intro gC capC wC hoC hgC haC))
                have hbC := push_below HBB.out HAC.out HBB.out.size HOB.out hgC
                clear haC
                go_roundw
                case rel => exact ⟨j + 1, by omega, by simp, by rw [HR.out], by rw [HR.out]; simpa using hoC, hbC⟩
                case measure => simp [intOf]; omega
              · have t1 : decide (n < x) = false := by simpa using h1
                by_cases h2 : n ≤ x
                · have HR := Lib.hid (show putTo n (R.take (j + 1)) = (P ++ [x], true) by rw [HPS.out]; simp [h1, h2])
                  have t2 : decide (n ≤ x) = true := by simpa using h2
                  clear h1 h2 hx7
                  have hAC : Below wr.heap.size wr (wr.alloc (.cells #[.int .i64 x] 3)) := below_alloc (Below.refl _ _) _
                  have HNC := Lib.hid (hoA.alters (S := fun _ => False) (Alters.of_below hAC) (fun _ h => h.elim))
                  have HOA := Lib.hid hoA
                  clear hoA
                  go_wp2_with (at_builtin; go_loud (refine wpList_push rfl (.tmp 57) (.tmp 62) rfl w7.heap.size _ P rfl HNC.out (by have := HPL.out; omega) (Nat.le_trans hbA.size hAC.size) ⟨wr.heap.size, 0, none⟩ x rfl (cell_new_at _ _ _ _ _ _ rfl rfl) ?_; intro gC capC wC hoC hgC haC))
                  have hbC := push_below hbA hAC hbA.size HOA.out hgC
                  clear haC hAC
                  go_roundw
                  case rel => exact ⟨j + 1, by omega, by simp, by rw [HR.out], by rw [HR.out]; exact hoC, hbC⟩
                  case measure => simp [intOf]; omega
                · have HR := Lib.hid (show putTo n (R.take (j + 1)) = (P ++ [x], false) by rw [HPS.out]; simp [h1, h2])
                  have t2 : decide (n ≤ x) = false := by simpa using h2
                  clear h1 h2 hx7
                  have hAC : Below wr.heap.size wr (wr.alloc (.cells #[.int .i64 x] 3)) := below_alloc (Below.refl _ _) _
                  have HNC := Lib.hid (hoA.alters (S := fun _ => False) (Alters.of_below hAC) (fun _ h => h.elim))
                  have HOA := Lib.hid hoA
                  clear hoA
                  go_wp2_with (at_builtin; go_loud (refine wpList_push rfl (.tmp 57) (.tmp 62) rfl w7.heap.size _ P rfl HNC.out (by have := HPL.out; omega) (Nat.le_trans hbA.size hAC.size) ⟨wr.heap.size, 0, none⟩ x rfl (cell_new_at _ _ _ _ _ _ rfl rfl) ?_; intro gC capC wC hoC hgC haC))
                  have hbC := push_below hbA hAC hbA.size HOA.out hgC
                  clear haC hAC
                  go_roundw
                  case rel => exact ⟨j + 1, by omega, by simp, by rw [HR.out], by rw [HR.out]; exact hoC, hbC⟩
                  case measure => simp [intOf]; omega
          · obtain rfl : j = R.length := by omega
            rw [List.take_length] at hoA ⊢
            have hpl := putTo_len n R
            have HSN3 := Lib.hid (show rdirsS (l.take (q + 1)) = (putTo n R).1 ++ if (putTo n R).2 = false then [n] else [] from HSN2.out)
            generalize putTo n R = st at *
            obtain ⟨P, dn⟩ := st
            dsimp only at hpl hoA
            have hbw' : Below w.heap.size w wr := below_step hbw7 hbA
            have hs7 := hbw7.size
            cases dn with
            | true =>
              have HR := Lib.hid (show rdirsS (l.take (q + 1)) = P by rw [HSN3.out]; simp)
              have HOA := Lib.hid (hoA.mono hs7)
              clear hoA hpl hoI hL
              go_wp2
              go_roundw
              case rel => exact ⟨q + 1, by omega, by simp, by rw [HR.out]; exact HOA.out, hbw'⟩
              case measure => simp [intOf]; omega
            | false =>
              have HR := Lib.hid (show rdirsS (l.take (q + 1)) = P ++ [n] by rw [HSN3.out]; simp)
              have hAB : Below wr.heap.size wr (wr.alloc (.cells #[.int .i64 n] 3)) := below_alloc (Below.refl _ _) _
              have HNB := Lib.hid (hoA.alters (S := fun _ => False) (Alters.of_below hAB) (fun _ h => h.elim))
              have HOA := Lib.hid hoA
              have HPL := Lib.hid (show P.length ≤ 200 by omega)
              clear hoA hpl hoI hL
              go_wp2_with (at_builtin; go_loud (refine wpList_push rfl (.tmp 66) (.tmp 68) rfl w7.heap.size _ P rfl HNB.out (by have := HPL.out; omega) (Nat.le_trans hbA.size hAB.size) ⟨wr.heap.size, 0, none⟩ n rfl (cell_new_at _ _ _ _ _ _ rfl rfl) ?_; intro gB capB wB hoB hgB haB))
              have hbB := push_below hbA hAB hbA.size HOA.out hgB
              have hbB' : Below w.heap.size w wB := hbw7.trans (hbB.mono hs7)
              clear haB hAB
              go_roundw
              case rel => exact ⟨q + 1, by omega, by simp, by rw [HR.out]; simpa using hoB.mono hs7, hbB'⟩
              case measure => simp [intOf]; omega
    · obtain rfl : q = l.length := by omega
      rw [List.take_length, rdirs_eq] at ho
      have HO := Lib.hid ho
      clear ho hL
      go_wp2
      go_ret
      exact ⟨_, rfl, HO.out, hbw⟩
end Go.Proofs.YtidgdfjnjgonoaaGreatDoor
