/- Layer 13's mathematics: spare, the poorest, what is given and granted. No program in it; no law is proved here. -/
import Derived.Test.YtkkhecdmjcffjaaRightsWords
namespace Go.Proofs.Ytkkhecdmjcffjaa

theorem ofV_bound (c : Cf) (l : List Rw) (who : Int) : 0 ≤ ofV c l who ∧ ofV c l who ≤ 19140298416324608 := by
  unfold ofV
  split
  · rename_i h
    obtain ⟨hr, h1, h2⟩ := h
    have hl := hr.2.1
    have hw : who.toNat < l.length := by omega
    have h3 := hr.2.2.2 who.toNat hw
    have h4 := (rightsV_bound (c := c) hr.fits hr.len hw).2
    omega
  · omega
/-- what is above a number that is kept -/
def spareV (c : Cf) (l : List Rw) (who keep : Int) : Int := if 0 < keep then (if ofV c l who ≤ keep then 0 else ofV c l who - keep) else ofV c l who
theorem spareV_bound (c : Cf) (l : List Rw) (who keep : Int) : 0 ≤ spareV c l who keep ∧ spareV c l who keep ≤ ofV c l who := by
  have := ofV_bound c l who
  unfold spareV
  split
  · split <;> omega
  · omega
/-- of all from a to below b but who, the one of the least rights, of alike ones the least -/
def PoorIn (g : Int → Int) (who a b t : Int) : Prop := a ≤ t ∧ t < b ∧ t ≠ who ∧ ∀ i, a ≤ i → i < b → i ≠ who → g t < g i ∨ (g t = g i ∧ t ≤ i)
theorem PoorIn.unique {g : Int → Int} {who a b s t : Int} (hs : PoorIn g who a b s) (ht : PoorIn g who a b t) : s = t := by
  obtain ⟨s1, s2, s3, s4⟩ := hs
  obtain ⟨t1, t2, t3, t4⟩ := ht
  have h1 := s4 t t1 t2 t3
  have h2 := t4 s s1 s2 s3
  omega
/-- the same, counted upwards -/
def poorU (g : Int → Int) (who : Int) : Nat → Int
  | 0 => -1
  | k + 1 => if (k : Int) = who then poorU g who k else if poorU g who k < 0 then (k : Int) else if g (k : Int) < g (poorU g who k) then (k : Int) else poorU g who k
/-- none yet, or the poorest of those seen -/
def Best (g : Int → Int) (who a b t : Int) : Prop := (t = -1 ∧ ∀ i, a ≤ i → i < b → i = who) ∨ PoorIn g who a b t
theorem Best.up_who {g : Int → Int} {who a b t : Int} (h : Best g who a b t) (hb : b = who) : Best g who a (b + 1) t := by
  rcases h with ⟨h1, h2⟩ | ⟨h1, h2, h3, h4⟩
  · exact Or.inl ⟨h1, fun i hi hj => if e : i = b then e.trans hb else h2 i hi (by omega)⟩
  · exact Or.inr ⟨h1, by omega, h3, fun i hi hj hw => h4 i hi (by omega) hw⟩
theorem Best.up_new {g : Int → Int} {who a b t : Int} (h : Best g who a b t) (hab : a ≤ b) (hb : b ≠ who) (hn : t < 0 ∨ g b < g t) (ha : 0 ≤ a) : Best g who a (b + 1) b := by
  rcases h with ⟨h1, h2⟩ | ⟨h1, h2, h3, h4⟩
  · refine Or.inr ⟨hab, by omega, hb, fun i hi hj hw => ?_⟩
    by_cases e : i = b
    · subst e; exact Or.inr ⟨rfl, Int.le_refl _⟩
    · exact absurd (h2 i hi (by omega)) hw
  · refine Or.inr ⟨hab, by omega, hb, fun i hi hj hw => ?_⟩
    by_cases e : i = b
    · subst e; exact Or.inr ⟨rfl, Int.le_refl _⟩
    · have := h4 i hi (by omega) hw
      omega
theorem Best.up_old {g : Int → Int} {who a b t : Int} (h : Best g who a b t) (ht : 0 ≤ t) (hn : g t ≤ g b) : Best g who a (b + 1) t := by
  rcases h with ⟨h1, h2⟩ | ⟨h1, h2, h3, h4⟩
  · omega
  · refine Or.inr ⟨h1, by omega, h3, fun i hi hj hw => ?_⟩
    by_cases e : i = b
    · subst e; omega
    · exact h4 i hi (by omega) hw
theorem Best.down_who {g : Int → Int} {who a b t : Int} (h : Best g who (a + 1) b t) (hb : a = who) : Best g who a b t := by
  rcases h with ⟨h1, h2⟩ | ⟨h1, h2, h3, h4⟩
  · exact Or.inl ⟨h1, fun i hi hj => if e : i = a then e.trans hb else h2 i (by omega) hj⟩
  · exact Or.inr ⟨by omega, h2, h3, fun i hi hj hw => h4 i (by omega) hj hw⟩
theorem Best.down_new {g : Int → Int} {who a b t : Int} (h : Best g who (a + 1) b t) (hab : a < b) (hb : a ≠ who) (hn : t < 0 ∨ g a ≤ g t) (ha : 0 ≤ a) : Best g who a b a := by
  rcases h with ⟨h1, h2⟩ | ⟨h1, h2, h3, h4⟩
  · refine Or.inr ⟨Int.le_refl _, hab, hb, fun i hi hj hw => ?_⟩
    by_cases e : i = a
    · subst e; exact Or.inr ⟨rfl, Int.le_refl _⟩
    · exact absurd (h2 i (by omega) hj) hw
  · refine Or.inr ⟨Int.le_refl _, hab, hb, fun i hi hj hw => ?_⟩
    by_cases e : i = a
    · subst e; exact Or.inr ⟨rfl, Int.le_refl _⟩
    · have := h4 i (by omega) hj hw
      omega
theorem Best.down_old {g : Int → Int} {who a b t : Int} (h : Best g who (a + 1) b t) (ht : 0 ≤ t) (hn : g t < g a) : Best g who a b t := by
  rcases h with ⟨h1, h2⟩ | ⟨h1, h2, h3, h4⟩
  · omega
  · refine Or.inr ⟨by omega, h2, h3, fun i hi hj hw => ?_⟩
    by_cases e : i = a
    · subst e; exact Or.inl hn
    · exact h4 i (by omega) hj hw
theorem poorU_best (g : Int → Int) (who : Int) : ∀ k : Nat, Best g who 0 k (poorU g who k)
  | 0 => Or.inl ⟨rfl, fun i hi hj => by omega⟩
  | k + 1 => by
    have ih := poorU_best g who k
    unfold poorU
    rw [show ((k + 1 : Nat) : Int) = (k : Int) + 1 by omega]
    split
    · rename_i h; exact ih.up_who h
    · rename_i h
      split
      · rename_i h2; exact ih.up_new (by omega) h (Or.inl h2) (Int.le_refl _)
      · split
        · rename_i h2 h3; exact ih.up_new (by omega) h (Or.inr h3) (Int.le_refl _)
        · rename_i h2 h3; exact ih.up_old (by omega) (by omega)
/-- where there is another one, the best is the poorest -/
theorem Best.poor {g : Int → Int} {who n t : Int} (h : Best g who 0 n t) (h2 : 2 ≤ n) : PoorIn g who 0 n t := by
  rcases h with ⟨h1, h3⟩ | h
  · have a := h3 0 (by omega) (by omega)
    have b := h3 1 (by omega) (by omega)
    omega
  · exact h
theorem Best.is {g : Int → Int} {who n t : Int} (h : Best g who 0 n t) (h2 : 2 ≤ n) : t = poorU g who n.toNat := by
  have hu := poorU_best g who n.toNat
  rw [show ((n.toNat : Nat) : Int) = n by omega] at hu
  exact (h.poor h2).unique (hu.poor h2)
/-- what is given unasked, and to whom -/
def giveV (c : Cf) (l : List Rw) (who keep : Int) : Int × Int :=
  if rightOk c l ∧ 0 ≤ who ∧ who < c.n ∧ c.n ≠ 1 then
    (if spareV c l who keep - ofV c l (poorU (ofV c l) who c.n.toNat) < 2 then (0, 0) else (poorU (ofV c l) who c.n.toNat, (spareV c l who keep - ofV c l (poorU (ofV c l) who c.n.toNat)) / 2))
  else (0, 0)
theorem giveV_no {c : Cf} {l : List Rw} {who keep : Int} (h : ¬ (rightOk c l ∧ 0 ≤ who ∧ who < c.n ∧ c.n ≠ 1)) : giveV c l who keep = (0, 0) := if_neg h
/-- what is granted -/
def grantV (c : Cf) (l : List Rw) (who keep tg need : Int) : Int :=
  if rightOk c l ∧ (0 ≤ who ∧ who < c.n) ∧ (0 ≤ tg ∧ tg < c.n) ∧ tg ≠ who ∧ need ≤ 1099511627776 ∧ 1 ≤ need ∧ 1 ≤ need - ofV c l tg then min (need - ofV c l tg) (spareV c l who keep) else 0
theorem grantV_no {c : Cf} {l : List Rw} {who keep tg need : Int} (h : ¬ (rightOk c l ∧ (0 ≤ who ∧ who < c.n) ∧ (0 ≤ tg ∧ tg < c.n) ∧ tg ≠ who ∧ need ≤ 1099511627776 ∧ 1 ≤ need ∧ 1 ≤ need - ofV c l tg)) : grantV c l who keep tg need = 0 := if_neg h
/-- what is given may be moved, or was moved so much that it is beyond all that may be; the giver stays no poorer -/
theorem give_is {c : Cf} {l : List Rw} {who keep t n : Int} (h : giveV c l who keep = (t, n)) :
    (t = 0 ∧ n = 0) ∨ (rightOk c l ∧ (0 ≤ who ∧ who < c.n) ∧ (0 ≤ t ∧ t < c.n) ∧ t ≠ who ∧ 1 ≤ n ∧ ofV c l t + 2 * n ≤ spareV c l who keep) := by
  unfold giveV at h
  by_cases h1 : rightOk c l ∧ 0 ≤ who ∧ who < c.n ∧ c.n ≠ 1
  · rw [if_pos h1] at h
    by_cases h2 : spareV c l who keep - ofV c l (poorU (ofV c l) who c.n.toNat) < 2
    · rw [if_pos h2] at h
      exact Or.inl ⟨(Prod.mk.inj h).1.symm, (Prod.mk.inj h).2.symm⟩
    · rw [if_neg h2] at h
      obtain ⟨e1, e2⟩ := Prod.mk.inj h
      have hu := poorU_best (ofV c l) who c.n.toNat
      have hn := h1.1.1.1
      rw [show ((c.n.toNat : Nat) : Int) = c.n by omega] at hu
      obtain ⟨p1, p2, p3, _⟩ := hu.poor (by omega)
      rw [e1] at p1 p2 p3 e2 h2
      exact Or.inr ⟨h1.1, ⟨h1.2.1, h1.2.2.1⟩, ⟨p1, p2⟩, p3, by omega, by omega⟩
  · rw [if_neg h1] at h
    exact Or.inl ⟨(Prod.mk.inj h).1.symm, (Prod.mk.inj h).2.symm⟩
theorem grant_is (c : Cf) (l : List Rw) (who keep tg need : Int) :
    grantV c l who keep tg need = 0 ∨ (rightOk c l ∧ (0 ≤ who ∧ who < c.n) ∧ (0 ≤ tg ∧ tg < c.n) ∧ tg ≠ who ∧ 1 ≤ grantV c l who keep tg need ∧ grantV c l who keep tg need ≤ 1099511627776 ∧ grantV c l who keep tg need ≤ spareV c l who keep) := by
  by_cases h : rightOk c l ∧ (0 ≤ who ∧ who < c.n) ∧ (0 ≤ tg ∧ tg < c.n) ∧ tg ≠ who ∧ need ≤ 1099511627776 ∧ 1 ≤ need ∧ 1 ≤ need - ofV c l tg
  · have e : grantV c l who keep tg need = min (need - ofV c l tg) (spareV c l who keep) := if_pos h
    have h1 := ofV_bound c l tg
    have h2 := spareV_bound c l who keep
    obtain ⟨g1, g2, g3, g4, g5, g6, g7⟩ := h
    rw [e]
    by_cases hz : spareV c l who keep = 0
    · left; rw [hz]; omega
    · right; exact ⟨g1, g2, g3, g4, by omega, by omega, by omega⟩
  · exact Or.inl (grantV_no h)
end Go.Proofs.Ytkkhecdmjcffjaa
