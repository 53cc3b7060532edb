/-
  Positions as plain lists of numbers, and their order.
-/
namespace Go.Proofs.Ytepbmgbomdekaaa

/-- Numbers that come before, are equal, come after. -/
def cmpI (a b : Int) : Int := if a < b then -1 else if a = b then 0 else 1
def orI (a b : Int) : Int := if a = 0 then b else a
def cmpL : List Int → List Int → Int
  | [], [] => 0
  | [], _ :: _ => -1
  | _ :: _, [] => 1
  | a :: l, b :: m => orI (cmpI a b) (cmpL l m)
structure PosS where
  cells : List Int
  h0 : List Int
  h1 : List Int
  rights : Int
  side : Int
def cmpP (p q : PosS) : Int := orI (cmpL p.cells q.cells) (orI (cmpL p.h0 q.h0) (orI (cmpL p.h1 q.h1) (orI (cmpI p.rights q.rights) (cmpI p.side q.side))))

structure CmpOk {α : Type} (f : α → α → Int) : Prop where
  rng : ∀ a b, f a b = -1 ∨ f a b = 0 ∨ f a b = 1
  anti : ∀ a b, f b a = - f a b
  eq0 : ∀ a b, f a b = 0 ↔ a = b
  lt : ∀ a b c, f a b = -1 → f b c = -1 → f a c = -1

theorem cmpI_ok : CmpOk cmpI := by
  refine ⟨fun a b => ?_, fun a b => ?_, fun a b => ?_, fun a b c => ?_⟩ <;> unfold cmpI
  · split
    · exact .inl rfl
    · split
      · exact .inr (.inl rfl)
      · exact .inr (.inr rfl)
  · split <;> split <;> (try split) <;> omega
  · split
    · omega
    · split <;> omega
  · split
    · split
      · intro _ _; rw [if_pos (by omega)]
      · split <;> intro _ h <;> omega
    · split <;> intro h <;> omega
theorem CmpOk.lex {α β : Type} {f : α → α → Int} {g : β → β → Int} (hf : CmpOk f) (hg : CmpOk g) : CmpOk (fun (x y : α × β) => orI (f x.1 y.1) (g x.2 y.2)) := by
  refine ⟨fun a b => ?_, fun a b => ?_, fun a b => ?_, fun a b c => ?_⟩ <;> (try dsimp only) <;> unfold orI
  · split
    · exact hg.rng _ _
    · exact hf.rng _ _
  · have h1 := hf.anti a.1 b.1
    have h2 := hg.anti a.2 b.2
    split <;> split <;> omega
  · obtain ⟨a1, a2⟩ := a
    obtain ⟨b1, b2⟩ := b
    have h1 := hf.eq0 a1 b1
    have h2 := hg.eq0 a2 b2
    dsimp only
    split
    · rename_i h
      rw [h2, Prod.mk.injEq]
      exact ⟨fun e => ⟨h1.1 h, e⟩, fun e => e.2⟩
    · rename_i h
      constructor
      · intro e; exact absurd e h
      · intro e; exact absurd (h1.2 (Prod.mk.inj e).1) h
  · intro h1 h2
    have e1 := hf.eq0 a.1 b.1
    have e2 := hf.eq0 b.1 c.1
    by_cases p1 : f a.1 b.1 = 0
    · have q1 := e1.1 p1
      rw [if_pos p1] at h1
      by_cases p2 : f b.1 c.1 = 0
      · rw [if_pos p2] at h2
        rw [q1, if_pos p2]
        exact hg.lt _ _ _ h1 h2
      · rw [if_neg p2] at h2
        rw [q1, if_neg p2]
        exact h2
    · rw [if_neg p1] at h1
      by_cases p2 : f b.1 c.1 = 0
      · have q2 := e2.1 p2
        rw [← q2, if_neg p1]
        exact h1
      · rw [if_neg p2] at h2
        have h3 := hf.lt _ _ _ h1 h2
        rw [if_neg (by omega)]
        exact h3
theorem cmpL_ok : CmpOk cmpL := by
  refine ⟨fun a => ?_, fun a => ?_, fun a => ?_, fun a => ?_⟩
  · induction a with
    | nil => intro b; cases b <;> simp [cmpL]
    | cons x l ih =>
      intro b
      cases b with
      | nil => simp [cmpL]
      | cons y m =>
        unfold cmpL orI
        split
        · exact ih m
        · exact cmpI_ok.rng _ _
  · induction a with
    | nil => intro b; cases b <;> simp [cmpL]
    | cons x l ih =>
      intro b
      cases b with
      | nil => simp [cmpL]
      | cons y m =>
        unfold cmpL orI
        have h1 := cmpI_ok.anti x y
        have h2 := ih m
        split <;> split <;> omega
  · induction a with
    | nil => intro b; cases b <;> simp [cmpL]
    | cons x l ih =>
      intro b
      cases b with
      | nil => simp [cmpL]
      | cons y m =>
        unfold cmpL orI
        have h1 := cmpI_ok.eq0 x y
        have h2 := ih m
        rw [List.cons.injEq]
        split
        · rename_i h
          rw [h2]
          exact ⟨fun e => ⟨h1.1 h, e⟩, fun e => e.2⟩
        · rename_i h
          exact ⟨fun e => absurd e h, fun e => absurd (h1.2 e.1) h⟩
  · induction a with
    | nil =>
      intro b c h1 h2
      cases c with
      | nil => cases b <;> simp [cmpL] at h1 h2
      | cons z n => simp [cmpL]
    | cons x l ih =>
      intro b c h1 h2
      cases b with
      | nil => simp [cmpL] at h1
      | cons y m =>
        cases c with
        | nil => simp [cmpL] at h2
        | cons z n =>
          unfold cmpL orI at h1 h2 ⊢
          have e1 := cmpI_ok.eq0 x y
          have e2 := cmpI_ok.eq0 y z
          by_cases p1 : cmpI x y = 0
          · have q1 := e1.1 p1
            rw [if_pos p1] at h1
            by_cases p2 : cmpI y z = 0
            · rw [if_pos p2] at h2
              rw [q1, if_pos p2]
              exact ih _ _ h1 h2
            · rw [if_neg p2] at h2
              rw [q1, if_neg p2]
              exact h2
          · rw [if_neg p1] at h1
            by_cases p2 : cmpI y z = 0
            · have q2 := e2.1 p2
              rw [← q2, if_neg p1]
              exact h1
            · rw [if_neg p2] at h2
              have h3 := cmpI_ok.lt _ _ _ h1 h2
              rw [if_neg (by omega)]
              exact h3
def posT (p : PosS) : List Int × List Int × List Int × Int × Int := (p.cells, p.h0, p.h1, p.rights, p.side)
theorem posT_inj {p q : PosS} (h : posT p = posT q) : p = q := by
  cases p; cases q
  simp only [posT, Prod.mk.injEq] at h
  obtain ⟨rfl, rfl, rfl, rfl, rfl⟩ := h
  rfl
theorem cmpT_ok : CmpOk (fun (x y : List Int × List Int × List Int × Int × Int) => orI (cmpL x.1 y.1) (orI (cmpL x.2.1 y.2.1) (orI (cmpL x.2.2.1 y.2.2.1) (orI (cmpI x.2.2.2.1 y.2.2.2.1) (cmpI x.2.2.2.2 y.2.2.2.2))))) :=
  cmpL_ok.lex (cmpL_ok.lex (cmpL_ok.lex (cmpI_ok.lex cmpI_ok)))
theorem cmpP_ok : CmpOk cmpP :=
  ⟨fun p q => cmpT_ok.rng (posT p) (posT q), fun p q => cmpT_ok.anti (posT p) (posT q), fun p q => (cmpT_ok.eq0 (posT p) (posT q)).trans ⟨posT_inj, fun h => by rw [h]⟩, fun p q r => cmpT_ok.lt (posT p) (posT q) (posT r)⟩
/-- What PosOrders asks. -/
theorem orders_ok (p q r : PosS) : (-1 ≤ cmpP p q ∧ cmpP p q ≤ 1) ∧ cmpP q p = - cmpP p q ∧ cmpP p p = 0 ∧ (cmpP p q = 0 ↔ p = q) ∧
    (cmpP p q ≤ 0 → cmpP q r ≤ 0 → (cmpP p r ≤ 0 ∧ (cmpP p r = 0 → cmpP p q = 0 ∧ cmpP q r = 0))) ∧
    (0 ≤ cmpP p q → 0 ≤ cmpP q r → (0 ≤ cmpP p r ∧ (cmpP p r = 0 → cmpP p q = 0 ∧ cmpP q r = 0))) := by
  have r1 := cmpP_ok.rng p q
  have r2 := cmpP_ok.rng q r
  have r3 := cmpP_ok.rng p r
  have a1 := cmpP_ok.anti p q
  have a2 := cmpP_ok.anti q r
  have a3 := cmpP_ok.anti p r
  have z1 := cmpP_ok.eq0 p q
  have z2 := cmpP_ok.eq0 q r
  have l1 := cmpP_ok.lt p q r
  have l2 := cmpP_ok.lt r q p
  have s1 : p = q → cmpP p r = cmpP q r := fun h => by rw [h]
  have s2 : q = r → cmpP p r = cmpP p q := fun h => by rw [h]
  refine ⟨by omega, a1, (cmpP_ok.eq0 p p).2 rfl, z1, fun h1 h2 => ?_, fun h1 h2 => ?_⟩
  · by_cases e1 : cmpP p q = 0
    · have := s1 (z1.1 e1); omega
    · by_cases e2 : cmpP q r = 0
      · have := s2 (z2.1 e2); omega
      · have := l1 (by omega) (by omega); omega
  · by_cases e1 : cmpP p q = 0
    · have := s1 (z1.1 e1); omega
    · by_cases e2 : cmpP q r = 0
      · have := s2 (z2.1 e2); omega
      · have := l2 (by omega) (by omega); omega
end Go.Proofs.Ytepbmgbomdekaaa
