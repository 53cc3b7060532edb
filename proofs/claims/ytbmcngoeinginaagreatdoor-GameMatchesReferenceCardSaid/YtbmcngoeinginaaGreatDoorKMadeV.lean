/-
 The games of the reference are valid.
-/
import Derived.Test.YtbmcngoeinginaaGreatDoorKGame
import Derived.Test.YtbmcngoeinginaaGreatDoorCVal
import Derived.Test.YtbmcngoeinginaaGreatDoorKRef
namespace Go.Proofs.YtbmcngoeinginaaGreatDoor
open Go Go.RowKit
theorem grid_all : ((List.range 3).all fun a => (List.range 3).all fun b => validS (gridB (1 + a) (1 + b)) && (List.range ((1 + a) * (1 + b))).all fun c => validS (withoutS (gridB (1 + a) (1 + b)) (c : Int))) = true := by decide +kernel
theorem madeB_valid (x y z : Nat) : validS (madeB x y z) = true := by
 have h := List.all_eq_true.1 grid_all (x % 3) (List.mem_range.2 (Nat.mod_lt _ (by omega)))
 have h2 := List.all_eq_true.1 h (y % 3) (List.mem_range.2 (Nat.mod_lt _ (by omega)))
 rw [Bool.and_eq_true] at h2
 unfold madeB
 split
 · have hp : 0 < (1 + x % 3) * (1 + y % 3) := Nat.mul_pos (by omega) (by omega)
   have h3 := List.all_eq_true.1 h2.2 (z % ((1 + x % 3) * (1 + y % 3))) (List.mem_range.2 (Nat.mod_lt _ hp));exact h3
 · exact h2.1
theorem prog_all : ((List.range 256).all fun n => (List.range 3).all fun r => validP (progS n 8 1 (r : Int)) 8 1 (r : Int) && validP (progS n 8 2 (r : Int)) 8 2 (r : Int)) = true := by decide +kernel
theorem prog_valid (n k r : Nat) (hn : n ≤ 255) (hk : k = 1 ∨ k = 2) (hr : r ≤ 2) : validP (progS n 8 (k : Int) (r : Int)) 8 (k : Int) (r : Int) = true := by
 have h := List.all_eq_true.1 prog_all n (List.mem_range.2 (by omega))
 have h2 := List.all_eq_true.1 h r (List.mem_range.2 (by omega))
 rw [Bool.and_eq_true] at h2
 rcases hk with rfl | rfl
 · exact h2.1
 · exact h2.2
theorem right_made (cells : Int) (kl t0 t1 t2 : Nat) (hc : 1 ≤ cells) (hk : 1 ≤ kl) :
   rightB cells kl (1 + ((t0 % 3 : Nat) : Int)) (if 1 + t0 % 3 ≠ 3 then ((t1 % kl : Nat) : Int) else 0) (if 1 + t0 % 3 = 2 then (t2 : Int) % cells else if 1 + t0 % 3 = 3 then ((t2 % 3 : Nat) : Int) else 0) (1 + ((t0 / 4 % 3 : Nat) : Int)) = true := by
 have h1 := Int.emod_nonneg (t2 : Int) (show cells ≠ 0 by omega)
 have h2 := Int.emod_lt_of_pos (t2 : Int) (show 0 < cells by omega)
 have h3 := Nat.mod_lt t1 (show 0 < kl by omega)
 obtain ⟨A, hA⟩ : ∃ A, (t2 : Int) % cells = A := ⟨_, rfl⟩
 obtain ⟨B, hB⟩ : ∃ B, t1 % kl = B := ⟨_, rfl⟩
 obtain ⟨C, hC⟩ : ∃ C, t2 % 3 = C := ⟨_, rfl⟩
 obtain ⟨D, hD⟩ : ∃ D, t0 / 4 % 3 = D := ⟨_, rfl⟩
 have hC3 : C < 3 := by omega
 have hD3 : D < 3 := by omega
 rw [hA] at h1 h2 ⊢
 rw [hB] at h3 ⊢
 rw [hC, hD]
 have hr : resB (1 + (D : Int)) = true := by unfold resB; rw [Bool.and_eq_true, decide_eq_true_eq, decide_eq_true_eq]; omega
 unfold rightB
 rw [hr, Bool.true_and]
 rcases (show t0 % 3 = 0 ∨ t0 % 3 = 1 ∨ t0 % 3 = 2 by omega) with h | h | h
 · rw [h]
   simp <;> omega
 · rw [h]
   simp <;> omega
 · rw [h]
   simp <;> omega
theorem made_valid {N : Nat} {W : World} {a0 a1 a2 : Option Addr} {x : GRaw} (hI : GRawIn N W a0 a1 a2 x) : validG (madeD x) = true := by
 have hk := kindN_two x
 have hl := made_len x
 have hnx : (madeD x).b.next.length = 8 := board_next x
 have hbc := board_cells x
 have hr2 : x.rights ≤ 2 := by unfold GRaw.rights; omega
 have hrt : (madeD x).rights = ((x.rights : Nat) : Int) := rfl
 unfold validG
 simp only [Bool.and_eq_true, decide_eq_true_eq]
 refine ⟨madeB_valid _ _ _, ?_, by rw [hrt]; omega, by rw [hrt]; omega, ?_, ?_, ?_⟩
 · unfold kindsB
   simp only [Bool.and_eq_true, decide_eq_true_eq];refine ⟨by omega, by omega, List.all_eq_true.2 (fun i hi => ?_)⟩;have hi := List.mem_range.1 hi;unfold kindAt kindB progsB;rw [List.getElem?_eq_getElem hi, Option.getD_some];simp only [Bool.and_eq_true, decide_eq_true_eq];refine ⟨?_, made_find x i hi, ?_, ?_⟩
   · rw [made_kind]
     rcases (show i = 0 ∨ i = 1 by omega) with rfl | rfl
     · exact (by decide : nameB [97] = true)
     · exact (by decide : nameB [98, 101, 101] = true)
   · rw [made_kind]
     have : (kD (kindS x i)).progs = ((x.list i).take 4).map (progOf x) := rfl
     rw [this, List.length_map, List.length_take]; omega
   · rw [Bool.not_eq_true', made_kind]
     have : (kD (kindS x i)).progs = ((x.list i).take 4).map (progOf x) := rfl;rw [this, List.any_eq_false];intro p hp;obtain ⟨n, hn, rfl⟩ := List.mem_map.1 hp;have hn2 := List.mem_of_mem_take hn
     have hnb : n ≤ 255 := by
       obtain ⟨j, hj, rfl⟩ := List.mem_iff_getElem.1 hn2;unfold GRaw.list at hj ⊢
       split at hj
       · rename_i h0; simp only [h0, if_true]; have := hI.k0.1 j; rwa [List.getElem?_eq_getElem hj, Option.getD_some] at this
       · rename_i h0; simp only [h0, if_false]; have := hI.k1.1 j; rwa [List.getElem?_eq_getElem hj, Option.getD_some] at this
     unfold wrongP progOf;rw [hnx, hl, hrt, show x.board.next.length = 8 from board_next x];have := prog_valid n (kindN x) x.rights hnb hk hr2;simp only [Bool.not_eq_true, Bool.not_eq_false'];exact this
 · unfold clausesB
   have hcl : (madeD x).clauses = ((x.c.take 3).map (clauseS x)).map cD := rfl;rw [Bool.and_eq_true, decide_eq_true_eq]
   refine ⟨by rw [hcl, List.length_map, List.length_map, List.length_take]; omega, ?_⟩
   rw [Bool.not_eq_true', List.any_eq_false];intro c hc;rw [hcl, List.map_map] at hc;obtain ⟨t, _, rfl⟩ := List.mem_map.1 hc;unfold wrongC
   rw [show clauseB (madeD x) ((cD ∘ clauseS x) t) = true from by
     unfold clauseB;rw [hl];exact right_made x.board.cells (kindN x) t.1 t.2.1 t.2.2 hbc.1 (by omega)]
   simp
 · have : (madeD x).blocked = if x.f 3 % 4 = 3 then 1 + ((x.f 3 / 4 % 3 : Nat) : Int) else 3 := rfl
   rw [this]; unfold resB; simp only [Bool.and_eq_true, decide_eq_true_eq]; split <;> omega
 · have : (madeD x).endless = if x.f 4 % 4 = 3 then 1 + ((x.f 4 / 4 % 3 : Nat) : Int) else 2 := rfl
   rw [this]; unfold resB; simp only [Bool.and_eq_true, decide_eq_true_eq]; split <;> omega
end Go.Proofs.YtbmcngoeinginaaGreatDoor
