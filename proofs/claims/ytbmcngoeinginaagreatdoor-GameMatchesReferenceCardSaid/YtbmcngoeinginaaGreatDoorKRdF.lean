/-
 The reference's reader, line by line: how much there is of a game.
-/
import Derived.Test.YtbmcngoeinginaaGreatDoorKRdM
namespace Go.Proofs.YtbmcngoeinginaaGreatDoor
open Go Go.RowKit Go.Lib
structure Sml (n : Nat) (g : GameD) : Prop where
 few : Few n g
 steps : ∀ k ∈ g.kinds, ∀ p ∈ k.progs, p.length ≤ 100
theorem parseS_len (s : List UInt8) : (parseS s).1.length ≤ 100 := by
 unfold parseS
 split
 · simp
 · rename_i p _
   split
   · rename_i h
     unfold validP at h;simp only [Bool.and_eq_true, decide_eq_true_eq] at h;exact Nat.le_trans h.2.1 (by decide)
   · simp
theorem Sml.more {n : Nat} {g : GameD} (h : Sml n g) : Sml (n + 1) g := ⟨h.few.mono (Nat.le_succ n), h.steps⟩
theorem addP_small {n : Nat} {ks : List KindD} {l : List (Int × Int)} (hk : ks.length ≤ n) (hp : ∀ k ∈ ks, k.progs.length ≤ n) (hs : ∀ k ∈ ks, ∀ p ∈ k.progs, p.length ≤ 100) (hl : l.length ≤ 100) :
   (addP ks l).length ≤ n + 1 ∧ (∀ k ∈ addP ks l, k.progs.length ≤ n + 1) ∧ ∀ k ∈ addP ks l, ∀ p ∈ k.progs, p.length ≤ 100 := by
 rcases List.eq_nil_or_concat ks with rfl | ⟨init, kd, e⟩
 · exact ⟨by rw [addP_nil]; simp, fun k hk => by rw [addP_nil] at hk; simp at hk, fun k hk => by rw [addP_nil] at hk; simp at hk⟩
 · have e : ks = init ++ [kd] := by simpa using e
   subst e;rw [addP_snoc]
   refine ⟨by simp at hk ⊢; omega, fun k hk2 => ?_, fun k hk2 p hp2 => ?_⟩
   · rcases List.mem_append.1 hk2 with h | h
     · exact Nat.le_succ_of_le (hp k (by simp [h]))
     · rw [List.mem_singleton.1 h]
       have := hp kd (by simp)
       simp; omega
   · rcases List.mem_append.1 hk2 with h | h
     · exact hs k (by simp [h]) p hp2
     · rw [List.mem_singleton.1 h] at hp2
       rcases List.mem_append.1 hp2 with h2 | h2
       · exact hs kd (by simp) p h2
       · rw [List.mem_singleton.1 h2]; exact hl
theorem growN_small {n : Nat} {g : GameD} (h : Sml n g) (i : Nat) (s : List UInt8) (ws : List (List UInt8)) : Sml (n + 1) (growN g i s ws) := by
 have h1 := h.more
 have hf := h.few
 unfold growN
 split
 · exact ⟨⟨h1.few.next, h1.few.kinds, h1.few.progs, h1.few.clauses⟩, h1.steps⟩
 · exact ⟨⟨by have := hf.next; simp; omega, h1.few.kinds, h1.few.progs, h1.few.clauses⟩, h1.steps⟩
 · exact ⟨⟨h1.few.next, h1.few.kinds, h1.few.progs, h1.few.clauses⟩, h1.steps⟩
 · refine ⟨⟨h1.few.next, by have := hf.kinds; simp; omega, fun k hk => ?_, h1.few.clauses⟩, fun k hk p hp => ?_⟩
   · rcases List.mem_append.1 hk with h | h
     · exact h1.few.progs k h
     · rw [List.mem_singleton.1 h]; simp
   · rcases List.mem_append.1 hk with h | h
     · exact h1.steps k h p hp
     · rw [List.mem_singleton.1 h] at hp; simp at hp
 · split
   · obtain ⟨a, b, c⟩ := addP_small (l := (parseS (s.drop 5)).1) hf.kinds hf.progs h.steps (parseS_len _)
     exact ⟨⟨h1.few.next, a, b, h1.few.clauses⟩, c⟩
   · exact h1
 · exact ⟨⟨h1.few.next, h1.few.kinds, h1.few.progs, h1.few.clauses⟩, h1.steps⟩
 · exact ⟨⟨h1.few.next, h1.few.kinds, h1.few.progs, h1.few.clauses⟩, h1.steps⟩
 · exact ⟨⟨h1.few.next, h1.few.kinds, h1.few.progs, by have := hf.clauses; simp; omega⟩, h1.steps⟩
 · exact ⟨⟨h1.few.next, h1.few.kinds, h1.few.progs, by have := hf.clauses; simp; omega⟩, h1.steps⟩
 · exact ⟨⟨h1.few.next, h1.few.kinds, h1.few.progs, by have := hf.clauses; simp; omega⟩, h1.steps⟩
 · exact ⟨⟨h1.few.next, h1.few.kinds, h1.few.progs, h1.few.clauses⟩, h1.steps⟩
 · exact ⟨⟨h1.few.next, h1.few.kinds, h1.few.progs, h1.few.clauses⟩, h1.steps⟩
 · exact h1
theorem growS_small {n : Nat} {g : GameD} (h : Sml n g) (s : List UInt8) : Sml (n + 1) (growS g s) := by
 unfold growS
 split
 · exact growN_small h _ _ _
 · exact h.more
theorem sml_zero : Sml 0 zeroG := ⟨⟨Nat.le_refl _, Nat.le_refl _, fun _ h => by simp [zeroG] at h, Nat.le_refl _⟩, fun _ h => by simp [zeroG] at h⟩
def upR (s : List UInt8) (i : Nat) : GameD := ((cutS s 10).take i).foldl growS zeroG
theorem upR_zero (s : List UInt8) : upR s 0 = zeroG := rfl
theorem upR_succ (s : List UInt8) (i : Nat) (h : i < (cutS s 10).length) : upR s (i + 1) = growS (upR s i) ((cutS s 10)[i]'h) := by
 unfold upR
 rw [List.take_add_one, List.getElem?_eq_getElem h, List.foldl_append]
 rfl
theorem upR_all (s : List UInt8) : upR s (cutS s 10).length = readR s := by
 unfold upR readR
 rw [List.take_length]
theorem upR_small (s : List UInt8) : ∀ i, i ≤ (cutS s 10).length → Sml i (upR s i)
 | 0, _ => sml_zero
 | i + 1, h => by
   rw [upR_succ s i (by omega)];exact growS_small (upR_small s i (by omega)) _
end Go.Proofs.YtbmcngoeinginaaGreatDoor
