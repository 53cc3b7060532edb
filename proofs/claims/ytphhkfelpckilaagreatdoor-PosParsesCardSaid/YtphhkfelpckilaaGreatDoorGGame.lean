/-
  What the laws of positions ask of a game that the reference made: its cells, its kinds' hands.
-/
import Derived.Test.YtphhkfelpckilaaGreatDoorGMadeG
import Derived.Test.YtphhkfelpckilaaGreatDoorDVal
namespace Go.Proofs.YtphhkfelpckilaaGreatDoor
open Go Go.RowKit

theorem keeps_of {h : Nat} {W : World} {v : Value} {ks : List KindS} (ho : OwnK h W v ks) (hk : 1 ≤ ks.length) : ∃ ak ck, v = .slice ak (ks.map (·.keep)).length ck ∧ Keeps W.heap.size W ak (ks.map (·.keep)) := by
  obtain ⟨vs, h0, h1, h2⟩ := ho
  have h1' := h1
  rcases h1.2 with ⟨_, hz⟩ | ⟨g, cap, cur, rfl, hg, hc, _⟩
  · omega
  · refine ⟨some ⟨g, 0, none⟩, cap, by simp, .inr ⟨g, 0, rfl, (Array.getElem?_eq_some_iff.1 hc).1, fun j hj => ?_⟩⟩
    have hj' : j < ks.length := by simpa using hj
    obtain ⟨k, u, e1, e2, e3, e4, e5⟩ := flatK_get ks vs j h0 hj'
    rw [Nat.zero_add, World.ownsRow.cellAt h1' (j * 3 + 2) (by omega), e5]
    simp [e1]
theorem made_game (x : GRaw) (a0 a1 a2 : Option Addr) (c0 c1 c2 N : Nat) (w : World) (hN : N ≤ w.heap.size) (hI : GRawIn N w a0 a1 a2 x) :
    Calls Tryz.prog 13 #[.agg (x.cells a0 a1 a2 c0 c1 c2)] w fun e w' => ∃ (bc r : Nat) (ks : List Bool) (an at_ ak ac : Option Addr) (ln cn lt ct ck lc cc : Nat) (mu : Bool) (bl en : Int),
      e = .returned (.agg #[.int .i64 (bc : Int), .slice an ln cn, .slice at_ lt ct, .slice ak ks.length ck, .int .i64 (r : Int), .bool mu, .slice ac lc cc, .int .i64 bl, .int .i64 en]) ∧ Keeps w'.heap.size w' ak ks ∧ (1 ≤ bc ∧ bc ≤ 9) ∧ r ≤ 2 ∧ (1 ≤ ks.length ∧ ks.length ≤ 2) ∧ Below w.heap.size w w' := by
  refine (madeG_any x a0 a1 a2 c0 c1 c2 N w hN hI).mono ?_
  rintro e w' ⟨on, ot, kv, cv, rfl, hO, hb⟩
  have hlen : (madeG x).kinds.length = kindN x := by unfold madeG; simp
  have hkn : kindN x = 1 ∨ kindN x = 2 := by unfold kindN; split <;> omega
  obtain ⟨ak, ck, rfl, hK⟩ := keeps_of hO.kinds (by omega)
  have hbc := board_cells x
  obtain ⟨bc, hbc'⟩ := Int.eq_ofNat_of_zero_le (show 0 ≤ x.board.cells by omega)
  obtain ⟨an, cn, at_, ct, rfl, rfl, _⟩ := hO.board.held
  obtain ⟨ac, cc, rfl⟩ : ∃ ac cc, cv = .slice ac (madeG x).clauses.length cc := by
    rcases hO.clauses.2 with ⟨h, h0⟩ | ⟨gg, cap, cur, h, _⟩
    · exact ⟨none, 0, by rw [h, h0]⟩
    · exact ⟨_, _, h⟩
  refine ⟨bc, x.rights, (madeG x).kinds.map (·.keep), an, at_, ak, ac, (madeG x).board.next.length, cn, (madeG x).board.turn.length, ct, ck, (madeG x).clauses.length, cc, (madeG x).must, (madeG x).blocked, (madeG x).endless, ?_, hK, by omega, by unfold GRaw.rights; omega, by rw [List.length_map, hlen]; omega, hb⟩
  rw [← hbc']
  rfl
end Go.Proofs.YtphhkfelpckilaaGreatDoor
