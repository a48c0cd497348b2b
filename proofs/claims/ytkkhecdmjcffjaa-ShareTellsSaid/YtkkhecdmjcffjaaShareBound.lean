/- Layer 13's mathematics: nobody's rights are above all that there may be; what is given or granted may be moved. No program in it; no law is proved here. -/
import Derived.Test.YtkkhecdmjcffjaaShareMath
import Derived.Test.YtkkhecdmjcffjaaRightsSumMath
import Derived.Test.YtkkhecdmjcffjaaRightsKeepEnds
namespace Go.Proofs.Ytkkhecdmjcffjaa

theorem sumN_below {f : Nat → Int} {b : Int} {n : Nat} (h : ∀ k, k < n → f k ≤ b) : ∀ k, k ≤ n → sumN f k ≤ (k : Int) * b
  | 0, _ => by simp [sumN]
  | k + 1, hk => by
    have ih := sumN_below h k (by omega)
    have h1 := h k (by omega)
    simp only [sumN]
    rw [show ((k + 1 : Nat) : Int) = (k : Int) + 1 by omega, Int.add_mul, Int.one_mul]
    omega
theorem one_below {c : Cf} {l : List Rw} (h : rightOk c l) : ∀ n, n ≤ l.length → ∀ k, k < n → rightsV c l k ≤ sumRights c l n
  | 0, _, k, hk => by omega
  | n + 1, hn, k, hk => by
    have h1 := h.2.2.2 n (by omega)
    have h2 := sum_up h n (by omega)
    simp only [sumRights]
    by_cases e : k = n
    · subst e; omega
    · have := one_below h n (by omega) k (by omega)
      omega
/-- nobody's rights are above 2^40 -/
theorem ofV_most (c : Cf) (l : List Rw) (who : Int) : 0 ≤ ofV c l who ∧ ofV c l who ≤ 1099511627776 := by
  refine ⟨(ofV_bound c l who).1, ?_⟩
  unfold ofV
  by_cases h : rightOk c l ∧ 0 ≤ who ∧ who < c.n
  · rw [if_pos h]
    obtain ⟨hr, h1, h2⟩ := h
    have hl := hr.2.1
    have hb := one_below hr l.length (Nat.le_refl _) who.toNat (by omega)
    have hv := value_is hr
    have hs := sumN_below (f := fun i => (at_ l i).inc - (at_ l i).use) (b := c.c) (n := l.length) (fun k hk => by
      have h1 := (hr.2.2.1 k hk).2
      obtain ⟨_, _, _, h3, _⟩ := hr.fits k hk
      omega) l.length (Nat.le_refl _)
    rw [hl] at hs
    have hk := hr.1.2.2.2.2.2.2.2.2.2.2
    rw [value_of hr] at hv
    omega
  · rw [if_neg h]; decide
theorem move_giver {c : Cf} {l : List Rw} {who tg n : Int} (h : rightOk c l ∧ (0 ≤ who ∧ who < c.n) ∧ (0 ≤ tg ∧ tg < c.n) ∧ tg ≠ who) (hn : 1 ≤ n ∧ n ≤ 1099511627776) (hr : n ≤ rightsV c l who.toNat)
    (h0 : (moveR c l who tg n).2 = 0) (hok : rightOk c (moveR c l who tg n).1) : ofV c (moveR c l who tg n).1 who = ofV c l who - n := by
  have hm := rMove_three h hn
  rw [if_pos hr] at hm
  by_cases h6 : (at_ l who.toNat).out[tg.toNat]?.getD 0 + n ≤ 1125899906842624
  · rw [if_pos h6] at hm
    have hl := h.1.2.1
    have h1 := h.2.1
    have h2 := h.2.2.1
    have hout : (at_ l who.toNat).out.length = l.length := (h.1.fits who.toNat (by omega)).1
    have e1 : ofV c (moveR c l who tg n).1 who = rightsV c (moveR c l who tg n).1 who.toNat := if_pos ⟨hok, h.2.1⟩
    have e2 : ofV c l who = rightsV c l who.toNat := if_pos ⟨h.1, h.2.1⟩
    have e3 := rights_moved (c := c) (l := l) (k := who.toNat) (j := tg.toNat) (x := (at_ l who.toNat).out[tg.toNat]?.getD 0 + n) (by omega) (by omega) (by omega) who.toNat
    rw [e1, e2, hm]
    show rightsV c (moved l who.toNat tg.toNat ((at_ l who.toNat).out[tg.toNat]?.getD 0 + n)) who.toNat = _
    rw [e3]
    have hne := h.2.2.2
    simp only [if_true]
    rw [if_neg (by omega)]
    omega
  · rw [if_neg h6] at hm
    rw [hm] at h0
    cases h0
/-- what is given is moved, or was moved so much that it is beyond all that may be -/
theorem give_moves {c : Cf} {l : List Rw} {who keep t n : Int} (h : giveV c l who keep = (t, n)) :
    (t = 0 ∧ n = 0) ∨ (0 < n ∧ ((moveR c l who t n).2 = 6 ∨ ((moveR c l who t n).2 = 0 ∧ ofV c (moveR c l who t n).1 t ≤ ofV c (moveR c l who t n).1 who))) := by
  rcases give_is h with h1 | ⟨hr, hw, ht, hne, hn, hle⟩
  · exact Or.inl h1
  · right
    have h2 := spareV_bound c l who keep
    have h3 := ofV_most c l who
    have h4 := ofV_most c l t
    have hof : ofV c l who = rightsV c l who.toNat := if_pos ⟨hr, hw⟩
    refine ⟨by omega, ?_⟩
    rcases move_keeps c l who t n with hk | hk
    · right
      have e1 := hk.2.2.2.2
      have e2 := move_giver ⟨hr, hw, ht, hne⟩ ⟨hn, by omega⟩ (by omega) hk.1 hk.2.2.1
      exact ⟨hk.1, by omega⟩
    · left
      have hm := rMove_three (c := c) (l := l) (who := who) (tg := t) (amount := n) ⟨hr, hw, ht, hne⟩ ⟨hn, by omega⟩
      rw [if_pos (by omega)] at hm
      by_cases h6 : (at_ l who.toNat).out[t.toNat]?.getD 0 + n ≤ 1125899906842624
      · rw [if_pos h6] at hm
        rw [hm] at hk
        exact absurd rfl hk
      · rw [if_neg h6] at hm
        rw [hm]
theorem grant_moves (c : Cf) (l : List Rw) (who keep tg need : Int) :
    grantV c l who keep tg need = 0 ∨ (0 < grantV c l who keep tg need ∧ ((moveR c l who tg (grantV c l who keep tg need)).2 = 0 ∨ (moveR c l who tg (grantV c l who keep tg need)).2 = 6)) := by
  rcases grant_is c l who keep tg need with h | ⟨hr, hw, ht, hne, hn, hle, hsp⟩
  · exact Or.inl h
  · right
    have h2 := spareV_bound c l who keep
    have hof : ofV c l who = rightsV c l who.toNat := if_pos ⟨hr, hw⟩
    refine ⟨by omega, ?_⟩
    have hm := rMove_three (c := c) (l := l) (who := who) (tg := tg) (amount := grantV c l who keep tg need) ⟨hr, hw, ht, hne⟩ ⟨hn, hle⟩
    rw [if_pos (by omega)] at hm
    by_cases h6 : (at_ l who.toNat).out[tg.toNat]?.getD 0 + grantV c l who keep tg need ≤ 1125899906842624
    · rw [if_pos h6] at hm
      rw [hm]; exact Or.inl rfl
    · rw [if_neg h6] at hm
      rw [hm]; exact Or.inr rfl
/-- who keeps all has nothing to spare -/
theorem spare_none (c : Cf) (l : List Rw) (who : Int) : spareV c l who 1099511627776 = 0 := by
  unfold spareV
  rw [if_pos (by decide), if_pos (ofV_most c l who).2]
theorem give_none (c : Cf) (l : List Rw) (who : Int) : (giveV c l who 1099511627776).2 = 0 := by
  unfold giveV
  split
  · have := (ofV_most c l (poorU (ofV c l) who c.n.toNat)).1
    rw [spare_none, if_pos (by omega)]
  · rfl
theorem grant_none (c : Cf) (l : List Rw) (who tg need : Int) : grantV c l who 1099511627776 tg need = 0 := by
  unfold grantV
  split
  · rw [spare_none]; omega
  · rfl
theorem grant_self (c : Cf) (l : List Rw) (who keep need : Int) : grantV c l who keep who need = 0 := grantV_no fun h => h.2.2.2.1 rfl
/-- who gives without keeping anything has twice that more than whom it gives to -/
theorem give_more {c : Cf} {l : List Rw} {who t n : Int} (h : giveV c l who 0 = (t, n)) : n = 0 ∨ (n ≠ 0 ∧ 0 ≤ n ∧ n ≤ 1099511627776 ∧ ofV c l t + 2 * n ≤ ofV c l who ∧ t ≠ who) := by
  rcases give_is h with h1 | ⟨hr, hw, ht, hne, hn, hle⟩
  · exact Or.inl h1.2
  · right
    have h2 := spareV_bound c l who 0
    have h3 := ofV_most c l who
    have h4 := ofV_most c l t
    exact ⟨by omega, by omega, by omega, by omega, hne⟩
end Go.Proofs.Ytkkhecdmjcffjaa
