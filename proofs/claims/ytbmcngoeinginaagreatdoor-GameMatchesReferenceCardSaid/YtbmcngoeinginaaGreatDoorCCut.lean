/-
 Of the reference: Cut.
-/
import Derived.Test.YtbmcngoeinginaaGreatDoorCSam
import Derived.Test.YtbmcngoeinginaaGreatDoorCWrt
import Derived.Test.YtbmcngoeinginaaGreatDoorCSpoA
import Derived.Test.YtbmcngoeinginaaGreatDoorCLns
namespace Go.Proofs.YtbmcngoeinginaaGreatDoor
open Go Go.RowKit Go.Lib
def cutTo (s : List UInt8) (d : UInt8) : Nat → List (List UInt8) × List UInt8
 | 0 => ([], [])
 | q + 1 => if s[q]?.getD 0 = d then ((cutTo s d q).1 ++ [(cutTo s d q).2], []) else ((cutTo s d q).1, (cutTo s d q).2 ++ [s[q]?.getD 0])
def cutS (s : List UInt8) (d : UInt8) : List (List UInt8) := (cutTo s d s.length).1 ++ [(cutTo s d s.length).2]
theorem cutTo_len (s : List UInt8) (d : UInt8) : ∀ q, (cutTo s d q).1.length + (cutTo s d q).2.length ≤ q
 | 0 => by simp [cutTo]
 | q + 1 => by
   have := cutTo_len s d q;unfold cutTo
   split <;> simp only [List.length_append, List.length_cons, List.length_nil] <;> omega
theorem cutTo_grow (s : List UInt8) (d : UInt8) (q : Nat) : (cutTo s d q).1.length ≤ (cutTo s d (q + 1)).1.length := by
 rw [show cutTo s d (q + 1) = if s[q]?.getD 0 = d then ((cutTo s d q).1 ++ [(cutTo s d q).2], []) else ((cutTo s d q).1, (cutTo s d q).2 ++ [s[q]?.getD 0]) from rfl]
 split <;> simp
theorem cutTo_mono (s : List UInt8) (d : UInt8) (p q : Nat) (h : p ≤ q) : (cutTo s d p).1.length ≤ (cutTo s d q).1.length := by
 induction q with
 | zero => rw [Nat.le_zero.1 h]; exact Nat.le_refl _
 | succ q ih =>
   rcases Nat.lt_or_ge p (q + 1) with h1 | h1
   · exact Nat.le_trans (ih (by omega)) (cutTo_grow s d q)
   · rw [Nat.le_antisymm h h1]; exact Nat.le_refl _
theorem info_strK : (Tryz.prog.info? 9).map (fun i => (i.zero, i.size, i.bytes)) = some (some (.string ⟨#[]⟩), 1, 16) := by kernel_rfl
theorem ext_1 (s : List UInt8) (q : Nat) (h : q < s.length) : (⟨s.toArray⟩ : ByteArray).extract q (q + 1) = ⟨#[s[q]?.getD 0]⟩ := by
 apply ByteArray.ext
 simp only [ByteArray.data_extract]
 apply Array.ext'
 simp [List.getElem?_eq_getElem h, List.take_one, List.head?_drop]
set_option maxRecDepth 100000 in
set_option maxHeartbeats 2000000 in
theorem rcut_any (s : List UInt8) (d : UInt8) (w : World) (hs : s.length ≤ 1000000) (hn : (cutS s d).length ≤ 1900) :
   Calls Tryz.prog 28 #[.string ⟨s.toArray⟩, .int .u8 (d.toNat : Int)] w fun e w' => ∃ v, e = .returned v ∧ OwnStrs w.heap.size w' v (cutS s d) ∧ Below w.heap.size w w' := by
 have HN : Hid (∀ q, q ≤ s.length → (cutTo s d q).1.length ≤ 1900) := Lib.hid (fun q hq => by
   have h1 := cutTo_mono s d q s.length hq;unfold cutS at hn;rw [List.length_append] at hn
   omega)
 clear hn
 have hown0 := own_fresh w 9 1
 have hb0 := below_alloc (Below.refl _ w) (.cells #[] 9)
 go_enter Tryz.func28, Tryz.ntmps28
 go_wp2_with fail
 generalize w.alloc (.cells #[] 9) = w1 at *
 go_loopw [5, 6, 7] (fun o l i wr => ∃ q : Nat, q ≤ s.length ∧ i = .int .i64 (q : Int) ∧ l = .string ⟨(cutTo s d q).2.toArray⟩ ∧ OwnStrs w.heap.size wr o (cutTo s d q).1 ∧ Below w.heap.size w wr) (fun _ _ i _ => s.length - (intOf i).toNat)
 case atStart => exact ⟨0, Nat.zero_le _, rfl, rfl, hown0, hb0⟩
 case round =>
   clear hown0 hb0;obtain ⟨q, hq, rfl, rfl, ho, hb⟩ := hrel;have hcl := cutTo_len s d q;have hcn := HN.out q hq;have HB := Lib.hid hb
   by_cases hlt : q < s.length
   · have t3 : decide ((q : Int) < (s.length : Int)) = true := by rw [decide_eq_true_eq]; omega
     have hx := byte3 s q hlt;have HC : Hid (cutTo s d (q + 1) = if s[q]?.getD 0 = d then ((cutTo s d q).1 ++ [(cutTo s d q).2], []) else ((cutTo s d q).1, (cutTo s d q).2 ++ [s[q]?.getD 0])) := Lib.hid rfl;generalize cutTo s d q = st at *;obtain ⟨O, L⟩ := st;dsimp only at ho hcl hcn HC ⊢;unfold OwnStrs at ho
     by_cases hd : s[q]?.getD 0 = d
     · have hT : ∀ h2 : q < (⟨s.toArray⟩ : ByteArray).size, (((⟨s.toArray⟩ : ByteArray)[q].toNat : Int) == (d.toNat : Int)) = true := fun h2 => by rw [hx h2, hd]; simp
       rw [if_pos hd] at HC;clear hx hd;have ho2 := World.ownsRow.alloc ho (.cells #[.string ⟨L.toArray⟩] 9)
       have hs2 : w.heap.size ≤ (wr.alloc (.cells #[.string ⟨L.toArray⟩] 9)).heap.size := by have := hb.size; simp; omega
       have hb2 := below_step hb (below_alloc (Below.refl _ wr) (.cells #[.string ⟨L.toArray⟩] 9));clear hb
       go_wp2_with (refine wpList_pushC rfl 73 9 (.string ⟨#[]⟩) 1 16 Tryz.underlying73 info_strK rfl (by decide) (by decide) (.tmp 20) (.tmp 22) rfl w.heap.size _ O.length (O.map strC) rfl ho2 (by omega) hs2 wr.heap.size 1 [.string ⟨L.toArray⟩] rfl rfl (hpn _ rfl) (by simp [Value.oneCell']) ?_; intro g7 cap7 w7 ho7 hg7 hor7)
       have hb7 : Below w.heap.size w w7 := hb2.trans ((Alters.of_grown hg7).below hs2 (fun k hk => (World.ownsRow.lt ho2 k hk.symm).1))
       have ho8 : OwnStrs w.heap.size w7 (.slice (some ⟨g7, 0, none⟩) (O.length + 1) cap7) (O ++ [L]) := by
         unfold OwnStrs;rw [List.length_append, List.map_append];exact ho7
       clear ho7 hg7 hor7 ho2 ho hs2 hb2
       go_roundw
       case rel => exact ⟨q + 1, by omega, by go_num, by rw [HC.out], by rw [HC.out]; exact ho8, hb7⟩
       case measure => simp [intOf]; omega
     · have hT : ∀ h2 : q < (⟨s.toArray⟩ : ByteArray).size, (((⟨s.toArray⟩ : ByteArray)[q].toNat : Int) == (d.toNat : Int)) = false := fun h2 => by
         rw [hx h2, beq_eq_false_iff_ne];intro e;exact hd (UInt8.toNat_inj.1 (by omega))
       rw [if_neg hd] at HC;have hext := ext_1 s q hlt
       have HXB : Hid (s[q]?.getD 0 = s[q]'hlt) := Lib.hid (by rw [List.getElem?_eq_getElem hlt]; rfl)
       have y0 : IntKind.i64.wrap ((q : Int) + 1) = (q : Int) + 1 := IntWalk.i64_in _ (by omega)
       have hs1 : ¬ 9223372036854775807 < L.length + 1 := by omega
       have HO := Lib.hid ho;clear hx hd ho;go_wp2
       go_roundw
       case rel => exact ⟨q + 1, by omega, by go_num, by rw [HC.out]; simp [ByteArray.ext_iff, HXB.out], by rw [HC.out]; exact HO.out, HB.out⟩
       case measure => simp [intOf]; omega
   · obtain rfl : q = s.length := by omega
     have HCS : Hid (cutS s d = (cutTo s d s.length).1 ++ [(cutTo s d s.length).2]) := Lib.hid rfl;generalize cutTo s d s.length = st at *;obtain ⟨O, L⟩ := st;dsimp only at ho hcl hcn HCS ⊢;unfold OwnStrs at ho;have ho2 := World.ownsRow.alloc ho (.cells #[.string ⟨L.toArray⟩] 9)
     have hs2 : w.heap.size ≤ (wr.alloc (.cells #[.string ⟨L.toArray⟩] 9)).heap.size := by have := hb.size; simp; omega
     have hb2 := below_step hb (below_alloc (Below.refl _ wr) (.cells #[.string ⟨L.toArray⟩] 9))
     go_wp2_with (refine wpList_pushC rfl 73 9 (.string ⟨#[]⟩) 1 16 Tryz.underlying73 info_strK rfl (by decide) (by decide) (.tmp 31) (.tmp 33) rfl w.heap.size _ O.length (O.map strC) rfl ho2 (by omega) hs2 wr.heap.size 1 [.string ⟨L.toArray⟩] rfl rfl (hpn _ rfl) (by simp [Value.oneCell']) ?_; intro g7 cap7 w7 ho7 hg7 hor7)
     have hb7 : Below w.heap.size w w7 := hb2.trans ((Alters.of_grown hg7).below hs2 (fun k hk => (World.ownsRow.lt ho2 k hk.symm).1))
     go_ret
     refine ⟨_, rfl, ?_, hb7⟩;rw [HCS.out];unfold OwnStrs;rw [List.length_append, List.map_append];exact ho7
end Go.Proofs.YtbmcngoeinginaaGreatDoor
