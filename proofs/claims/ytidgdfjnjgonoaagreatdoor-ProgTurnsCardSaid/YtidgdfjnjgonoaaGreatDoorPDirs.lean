/-
  Dirs of the package prog.
-/
import Derived.Test.YtidgdfjnjgonoaaGreatDoorPBase
import Derived.Test.YtidgdfjnjgonoaaGreatDoorPush
import Derived.Test.YtidgdfjnjgonoaaGreatDoorLib
namespace Go.Proofs.YtidgdfjnjgonoaaGreatDoor
open Go Go.RowKit Go.Sort Go.Lib

def dirsL (l : List (Int × Int)) : List Int := (l.filter fun x => hasDirB x.1).map fun x => x.2
def dirsS (l : List (Int × Int)) : List Int := compact ((dirsL l).mergeSort fun x y => decide (x ≤ y))
theorem dirsL_len (l : List (Int × Int)) : (dirsL l).length ≤ l.length := by unfold dirsL; rw [List.length_map]; exact List.length_filter_le _ _
theorem dirsL_snoc (l : List (Int × Int)) (x : Int × Int) : dirsL (l ++ [x]) = dirsL l ++ if hasDirB x.1 = true then [x.2] else [] := by
  unfold dirsL
  rw [List.filter_append, List.map_append]
  congr 1
  by_cases h : hasDirB x.1 = true <;> simp [h]

set_option maxRecDepth 100000 in
set_option maxHeartbeats 2000000 in
theorem dirs_any (l : List (Int × Int)) (a : Option Addr) (c N : Nat) (w : World) (hl : l.length ≤ 100) (hN : N ≤ w.heap.size) (hL : Prg N w a l) (hS : SignsIn w) :
    Calls Tryz.prog 18 #[.slice a l.length c] w fun e w' => ∃ v, e = .returned v ∧ OwnInts w.heap.size w' v (dirsS l) ∧ Below w.heap.size w w' := by
  go_enter Tryz.func18, Tryz.ntmps18
  go_wp2_with fail
  go_loopw [3, 8] (fun o i wr => ∃ q : Nat, q ≤ l.length ∧ i = .int .i64 q ∧ OwnInts w.heap.size wr o (dirsL (l.take q)) ∧ Below w.heap.size w wr)
    (fun _ i _ => l.length - (intOf i).toNat)
  case atStart => exact ⟨0, Nat.zero_le _, rfl, World.ownsRow_nil _ _ _ _, Below.refl _ _⟩
  case round =>
    obtain ⟨q, hq, rfl, ho, hbw⟩ := hrel
    by_cases hlt : q < l.length
    · obtain ⟨b, off, hab, hbN, hop, hnn⟩ := (hL.up hN hbw).at_ hlt
      subst hab
      have htk : l.take (q + 1) = l.take q ++ [l[q]?.getD (0, 0)] := by rw [List.take_add_one]; simp [hlt]
      have hsn := dirsL_snoc (l.take q) (l[q]?.getD (0, 0))
      rw [← htk] at hsn
      have hdl := dirsL_len (l.take q)
      have hql : (l.take q).length = q := by simp; omega
      generalize l[q]?.getD (0, 0) = x at hop hnn hsn
      obtain ⟨op, n⟩ := x
      dsimp only at hop hnn hsn
      generalize dirsL (l.take q) = L at ho hdl hsn
      have HSN := Lib.hid hsn
      have HDL := Lib.hid (show L.length ≤ 100 by omega)
      clear hsn hdl hql htk
      have hbs : Below wr.heap.size wr (wr.alloc (.cells #[.int .i64 op, .int .i64 n] 41)) := below_alloc (Below.refl _ _) _
      have e1 : (wr.alloc (.cells #[.int .i64 op, .int .i64 n] 41)).cell? ⟨wr.heap.size, 1, none⟩ = some (.int .i64 n) := cell_new_at _ _ _ _ _ _ rfl rfl
      have hbw6 := below_step hbw hbs
      have ho6 := ho.alters (S := fun _ => False) (Alters.of_below hbs) (fun _ h => h.elim)
      clear ho
      go_wp2_with fail
      generalize wr.alloc (.cells #[.int .i64 op, .int .i64 n] 41) = w6 at *
      refine (hasDir_any op n w6 (hS.up hbw6)).mono ?_
      rintro e w7 ⟨rfl, hb7⟩
      have ho7 := ho6.alters (S := fun _ => False) (Alters.of_below hb7) (fun _ h => h.elim)
      have hbw7 := below_step hbw6 hb7
      replace e1 := cell_keep hb7 e1
      clear ho6 hbw6 hb7 hbs hbw hop hnn
      cases hd : hasDirB op with
      | false =>
        have HD := Lib.hid hd
        clear hd
        go_wp2
        go_roundw
        case rel => exact ⟨q + 1, by omega, by simp, by rw [HSN.out, HD.out]; simpa using ho7, hbw7⟩
        case measure => simp [intOf]; omega
      | true =>
        have HD := Lib.hid hd
        clear hd
        have hAB : Below w7.heap.size w7 (w7.alloc (.cells #[.int .i64 n] 3)) := (Below.refl _ _).alloc (Nat.le_refl _) _
        have HNA := Lib.hid (ho7.alters (S := fun _ => False) (Alters.of_below hAB) (fun _ h => h.elim))
        have HO7 := Lib.hid ho7
        clear ho7
        go_wp2_with (at_builtin; go_loud (refine wpList_push rfl (.tmp 14) (.tmp 17) rfl w.heap.size _ L rfl HNA.out (by have := HDL.out; omega) (Nat.le_trans hbw7.size hAB.size) ⟨w7.heap.size, 0, none⟩ n rfl (cell_new_at _ _ _ _ _ _ rfl rfl) ?_; intro g8 cap8 w8 hown8 hg8 hat8))
        have hb8 := push_below hbw7 hAB hbw7.size HO7.out hg8
        clear hat8
        go_roundw
        case rel => exact ⟨q + 1, by omega, by simp, by rw [HSN.out, HD.out]; exact hown8, hb8⟩
        case measure => simp [intOf]; omega
    · obtain rfl : q = l.length := by omega
      rw [List.take_length] at ho
      have hdl := dirsL_len l
      have hlen2 : ((dirsL l).mergeSort fun x y => decide (x ≤ y)).length ≤ 100 := by simp; omega
      go_wp2_with fail
      refine (sort_own w.heap.size _ (dirsL l) wr ho (by omega)).mono ?_
      rintro e w2 ⟨rfl, ho2, hg2⟩
      have hb2 := hbw.trans ((Alters.of_grown hg2).below hbw.size (fun k e => (World.ownsRow.lt ho k e.symm).1))
      go_wp2_with fail
      refine (compact_own w.heap.size _ _ w2 ho2 (by omega)).mono ?_
      rintro e w3 ⟨v', rfl, ho3, hg3⟩
      have hb3 := hb2.trans ((Alters.of_grown hg3).below hb2.size (fun k e => (World.ownsRow.lt ho2 k e.symm).1))
      clear ho ho2 hg2 hg3
      go_wp2
      go_ret
      exact ⟨_, rfl, ho3, hb3⟩
end Go.Proofs.YtidgdfjnjgonoaaGreatDoor
